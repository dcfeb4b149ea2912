package volrep_test

import (
	"fmt"
	"slices"
	"strings"
	"testing"

	"harpsichord/api"
	"harpsichord/fcall"
	"harpsichord/fscore"
	"harpsichord/order"
	"harpsichord/platter"
)

// waiter is a call that waits, in a model.
type waiter struct {
	entry, view, client, number int
}

// model is a server by the chapter's words, one behind the other, with a node of its own.
type model struct {
	disk    *platter.Disk
	node    *order.Node
	table   *fcall.Table
	applied int
	waits   []waiter // by rising entries
	replies []reply
}

func newModel(t *testing.T, d *platter.Disk, self, many int) *model {
	t.Helper()
	node, e := order.Open(d, self, many)
	if e != api.OK {
		t.Fatalf("order.Open is %d", e)
	}
	return &model{disk: d, node: node, table: fcall.New(room)}
}

func (m *model) reply(client, number int, e api.Errno, a answer) {
	m.replies = append(m.replies, reply{Client: client, Number: number, Code: e, A: a})
}

func (m *model) lead(view int) bool {
	leads := m.node.Lead(view)
	m.behind()
	return leads
}

func (m *model) nudge() {
	m.node.Nudge()
	m.behind()
}

func (m *model) take(p api.Packet) {
	m.node.Take(p)
	m.behind()
}

func (m *model) ask(c call) {
	b, refused := fcall.Encode(c)
	if m.node.Dead() {
		m.reply(c.Client, c.Number, api.ErrTimeout, answer{})
	} else if !m.node.Leads() {
		m.reply(c.Client, c.Number, api.ErrVolLeader, answer{})
	} else if refused != api.OK {
		m.reply(c.Client, c.Number, api.ErrCallForm, answer{})
	} else if !m.node.Offer(b) {
		m.reply(c.Client, c.Number, api.ErrVolFull, answer{})
	} else {
		view, _ := m.node.Views()
		m.waits = append(m.waits, waiter{len(m.node.Log()), view, c.Client, c.Number})
	}
	m.behind()
}

// behind does what stands behind each call.
func (m *model) behind() {
	log := m.node.Log()
	m.timeouts(func(w waiter) bool {
		return !slices.ContainsFunc(log, func(x api.Entry) bool { return x.Number == w.entry && x.View == w.view })
	})
	for m.applied < m.node.Commit() {
		m.apply(log[m.applied])
		m.applied++
	}
	if !m.node.Leads() || m.node.Dead() {
		m.timeouts(func(waiter) bool { return true })
	}
}

func (m *model) timeouts(over func(waiter) bool) {
	var left []waiter
	for _, w := range m.waits {
		if over(w) {
			m.reply(w.client, w.number, api.ErrTimeout, answer{})
		} else {
			left = append(left, w)
		}
	}
	m.waits = left
}

func (m *model) apply(x api.Entry) {
	a := answer{Code: api.ErrCallForm}
	if c, e := fcall.Decode(x.Body); e == api.OK {
		a = m.table.Apply(c)
	}
	if at := slices.IndexFunc(m.waits, func(w waiter) bool { return w.entry == x.Number }); at >= 0 {
		w := m.waits[at]
		m.waits = slices.Delete(m.waits, at, at+1)
		m.reply(w.client, w.number, api.OK, a)
	}
}

// pair is a server, and the model of it.
type pair struct {
	*server
	m      *model
	roll   func(int) int
	shown  int      // how many entries were applied when the table was asked for last
	table  string   // what it told
	last   [5]int   // the Numbers that were asked, by clients
	told   []string // all that was told
	gotten []reply  // what was told behind the last call
	sent   []api.Packet
}

func newPair(t *testing.T, self, many int, roll func(int) int) *pair {
	t.Helper()
	return &pair{server: fresh(t, self, many), m: newModel(t, platter.New(sectors), self, many), roll: roll, shown: -1}
}

// reopen opens both anew on what a crash leaves.
func (p *pair) reopen(keep, tear int) {
	p.t.Helper()
	p.server = on(p.t, p.disk.Crash(keep, tear), p.self, p.many)
	p.m = newModel(p.t, p.m.disk.Crash(keep, tear), p.self, p.many)
	p.shown = -1
	p.same("Open")
}

func (p *pair) arm(k int) {
	p.disk.Arm(k)
	p.m.disk.Arm(k)
}

// kill lets both disks die by somebody else.
func (p *pair) kill() {
	p.arm(1)
	p.disk.Sync()
	p.m.disk.Sync()
}

func (p *pair) lead(view int) {
	p.t.Helper()
	if is, want := p.Lead(view), p.m.lead(view); is != want {
		p.t.Fatalf("P19.2: Lead(%d) is %v, not %v", view, is, want)
	}
	p.same(fmt.Sprintf("Lead(%d)", view))
}

func (p *pair) nudge() {
	p.t.Helper()
	p.Nudge()
	p.m.nudge()
	p.same("a Nudge")
}

func (p *pair) ask(c call) {
	p.t.Helper()
	p.Ask(c)
	p.m.ask(c)
	p.same("an Ask of " + short(c))
}

func (p *pair) take(x api.Packet) {
	p.t.Helper()
	p.Take(x)
	p.m.take(x)
	p.same("a Take of " + shown([]api.Packet{x}))
}

// same asks that both tell the same, and have the same.
func (p *pair) same(what string) {
	p.t.Helper()
	p.gotten, p.sent = p.Replies(), p.Out()
	if want := p.m.replies; !slices.EqualFunc(p.gotten, want, alike) {
		p.t.Fatalf("P19.3: behind %s it replies %s, not %s", what, short(p.gotten), short(want))
	}
	if want := p.m.node.Out(); !slices.Equal(p.sent, want) {
		p.t.Fatalf("P19.4: behind %s it sends %s, not %s", what, shown(p.sent), shown(want))
	}
	p.m.replies = nil
	if is, want := ofNode(p.Node()), ofNode(p.m.node); is != want || !slices.Equal(p.Node().Log(), p.m.node.Log()) {
		p.t.Fatalf("P19.1: behind %s its node has %s, not %s", what, short(is), short(want))
	}
	if is := p.Applied(); is != p.m.applied {
		p.t.Fatalf("P19.1: behind %s %d entries were applied, not %d", what, is, p.m.applied)
	}
	if p.shown != p.m.applied || p.roll(20) == 0 {
		p.shown, p.table = p.m.applied, ofTable(p.Table())
		if want := ofTable(p.m.table); p.table != want {
			p.t.Fatalf("P19.1: behind %s the table is %s, not %s", what, short(p.table), short(want))
		}
	}
	p.told = append(p.told, fmt.Sprint(p.gotten, p.sent))
}

// anyHandle is one that the table knows, most often.
func anyHandle(roll func(int) int) handle {
	if roll(3) == 0 {
		return root
	}
	return handle{Id: 1 + roll(7), Gen: pick(roll, 1, 1, 1, 1, 2, 2, 3)}
}

// anyCall is a call that has nothing but what its kind uses, most often; who asks is not said.
func anyCall(roll func(int) int) call {
	c := call{Kind: pick(roll, kMake, kMake, kMake, kLink, kRemove, kRename, kWrite, kWrite, kCut, kLook, kRead, kStat, kList, kList, kTarget), H: anyHandle(roll)}
	name, other := pick(roll, "a", "b", "c", "d", "..", "x/y"), pick(roll, "a", "b", "e")
	switch c.Kind {
	case kMake:
		c.H, c.Name, c.M = pick(roll, root, c.H), name, fscore.Make{Kind: 1 + roll(3), Mode: roll(4096), Time: roll(9)}
		if c.M.Kind == 3 {
			c.M.Target = other
		}
	case kLink:
		c.G, c.Name = pick(roll, root, anyHandle(roll)), name
	case kRemove:
		c.Name, c.Folder = name, roll(2) == 0
	case kRename:
		c.Name, c.G, c.Other = name, anyHandle(roll), other
	case kWrite:
		c.At, c.B, c.Time = roll(50), strings.Repeat(name, roll(20)), roll(9)
	case kCut:
		c.N, c.Time = roll(80), roll(9)
	case kLook:
		c.Name = name
	case kRead:
		c.At, c.N = roll(9), roll(99)
	}
	return c
}

// call is any that a server may be asked.
func (p *pair) call() call {
	roll := p.roll
	c := anyCall(roll)
	c.Client = 1 + roll(len(p.last)-1)
	if roll(6) > 0 {
		p.last[c.Client]++
	}
	c.Number = max(1, p.last[c.Client]-pick(roll, 0, 0, 0, 0, 0, 0, 0, 1, 2))
	switch roll(60) {
	case 0:
		return pick(roll, refused()...)
	case 1:
		c.Kind = 1 + roll(kTarget)
	case 2:
		c.At, c.N = -1, -1
	}
	return c
}

// entries are some behind the first ones of the log, with Views that do not fall, up to a greatest one.
func (p *pair) entries(first, many, top int) []api.Entry {
	var l []api.Entry
	view := 1
	if first > 0 {
		view = p.m.node.Log()[first-1].View
	}
	for k := range many {
		view += pick(p.roll, 0, 0, 0, 1, p.many)
		if first+k >= mostEntries || view > top {
			break
		}
		text := "none"
		if b, e := fcall.Encode(p.call()); e == api.OK && p.roll(9) > 0 {
			text = b
		}
		l = append(l, api.Entry{View: view, Number: first + k + 1, Body: text})
	}
	return l
}

// log is one with which another member may join, or start, up to a greatest View: all that is committed here is in it, most often.
func (p *pair) log(top int) []api.Entry {
	own := p.m.node.Log()
	for len(own) > 0 && own[len(own)-1].View > top {
		own = own[:len(own)-1]
	}
	keep := max(len(own)-p.roll(4), min(p.m.node.Commit(), len(own)))
	if p.roll(40) == 0 {
		keep = p.roll(len(own) + 1)
	}
	return append(own[:keep], p.entries(keep, p.roll(4), top)...)
}

// packet is a message that another member may send.
func (p *pair) packet() api.Packet {
	roll := p.roll
	promised, normal := p.m.node.Views()
	view, length := max(promised, 1), len(p.m.node.Log())
	later := promised + 1 + roll(2*p.many)
	var m order.Message
	switch started := promised == normal; {
	case roll(60) == 0:
		m = start(later, p.log(later-1))
	case roll(60) == 0:
		m = ask(pick(roll, later, later, view))
	case p.m.node.Leads() && !started:
		m = join(view, pick(roll, normal, view-1), p.log(pick(roll, normal, view-1)))
		m.Normal = max(m.Normal, lastView(m.L))
	case p.m.node.Leads():
		m = ack(view, max(length-roll(9), 0))
	case !started:
		m = start(view, p.log(view-1))
	case roll(2) == 0:
		m = put(view, length, p.entries(length, 1+roll(2), view))
	default:
		m = tell(view, max(length-pick(roll, 0, 0, 1, 2), 0))
	}
	from := m.View % p.many
	if m.Kind == 2 || m.Kind == 5 || roll(12) == 0 {
		from = (p.self + 1 + roll(max(p.many-1, 1))) % p.many
	}
	x := packet(p.t, from, p.self, m)
	switch roll(40) {
	case 0:
		x.To = roll(p.many)
	case 1:
		x.Body = "none"
	}
	return x
}

func lastView(l []api.Entry) int {
	if len(l) == 0 {
		return 0
	}
	return l[len(l)-1].View
}

// next is a view that the node may lead, most often.
func (p *pair) next() int {
	promised, _ := p.m.node.Views()
	if p.roll(9) == 0 {
		return promised - 1 + p.roll(4)
	}
	return promised - promised%p.many + p.many + p.self
}

// step does something with both.
func (p *pair) step() {
	p.t.Helper()
	leads, dead := p.m.node.Leads(), p.m.node.Dead()
	switch at := p.roll(1000); {
	case dead && at < 200 || at < 3:
		p.reopen(p.roll(p.disk.Pending()+1), p.roll(api.Sector+1))
	case at < 6:
		p.arm(1 + p.roll(30))
	case at < 7:
		p.kill()
	case at < 20 || !leads && at < 80:
		p.lead(p.next())
	case at < 100:
		p.nudge()
	case p.many > 1 && at < 550:
		p.take(p.packet())
	default:
		p.ask(p.call())
	}
}

// Of many mixed calls: all that a server replies, sends, and has.
func TestManyMixedCalls(t *testing.T) {
	replied := map[api.Errno]int{}
	answered := map[api.Errno]int{}
	on, applied, back := 0, 0, 0
	for seed := range uint64(140) {
		many := []int{1, 3, 3, 5, 2}[seed%5]
		p := newPair(t, int(seed/5)%many, many, dice(seed))
		for range 350 {
			was, waits := p.m.applied, len(p.m.waits)
			p.step()
			applied += max(p.m.applied-was, 0)
			_, normal := p.m.node.Views()
			on += count(waits > 0 && len(p.m.waits) > 0 && p.m.waits[0].view != normal)
			back += count(p.m.applied > p.m.node.Commit() && p.m.node.Commit() > 0)
			for _, r := range p.gotten {
				replied[r.Code]++
				if r.Code == api.OK {
					answered[r.A.Code]++
				}
			}
		}
	}
	for _, e := range []api.Errno{api.OK, api.ErrTimeout, api.ErrVolLeader, api.ErrCallForm, api.ErrVolFull} {
		if replied[e] < 300 {
			t.Errorf("%d replies of %d", replied[e], e)
		}
	}
	for _, e := range []api.Errno{api.OK, api.ErrArg, api.ErrFsNone, api.ErrFsExists, api.ErrFsStale, api.ErrFsNotDir} {
		if answered[e] < 100 {
			t.Errorf("%d answers of %d", answered[e], e)
		}
	}
	if on < 500 || applied < 10000 || back < 100 || answered[api.ErrCallForm] == 0 {
		t.Errorf("too little was done: %d, %d, %d, %v", on, applied, back, answered)
	}
}

// walk does many calls at one server, and tells all that was told.
func walk(t *testing.T, seed uint64) []string {
	t.Helper()
	p := newPair(t, 1, 3, dice(seed))
	for range 300 {
		p.step()
	}
	return append(p.told, p.picture(), content(p.disk))
}

func TestTheSameCallsTellTheSame(t *testing.T) {
	for seed := range uint64(8) {
		first := walk(t, seed)
		walk(t, seed+1) // other calls make no difference
		if again := walk(t, seed); !slices.Equal(first, again) {
			t.Errorf("R7: seed %d: the same calls tell others", seed)
		}
	}
}
