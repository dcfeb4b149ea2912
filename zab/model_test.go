package zab_test

import (
	"fmt"
	"slices"
	"strings"
	"testing"

	"harpsichord/api"
	"harpsichord/elect"
	"harpsichord/order"
	"harpsichord/platter"
	"harpsichord/watcher"
	"harpsichord/zab"
	"harpsichord/zstate"
)

// waiter is a request that waits, in a model.
type waiter struct {
	entry, view, to, number int
}

// model is a server by the chapter's words, one behind the other, with a node of its own.
type model struct {
	self, many, now int
	disk            *platter.Disk
	node            *order.Node
	timer           *elect.Timer
	state           *zstate.State
	applied         int
	watches         *watcher.Table
	waits           []waiter // by rising entries
	answers         []zab.Answer
	events          []api.Event
}

func newModel(t *testing.T, d *platter.Disk, self, many, span int) *model {
	t.Helper()
	node, e := order.Open(d, self, many)
	timer, e2 := elect.New(self, many, span)
	if e != api.OK || e2 != api.OK {
		t.Fatalf("order.Open is %d, elect.New %d", e, e2)
	}
	return &model{self: self, many: many, disk: d, node: node, timer: timer, state: zstate.New(), watches: watcher.New()}
}

func (m *model) answer(to, number int, a zab.Answer) {
	a.To, a.Number, a.Zxid = to, number, m.state.Zxid()
	m.answers = append(m.answers, a)
}

func (m *model) ask(r zab.Request) {
	switch {
	case m.node.Dead(): // what is answered is free
	case r.Kind == 1:
		m.write(r)
	case r.Kind == 2 || r.Kind == 3:
		m.read(r)
	default:
		m.answer(r.From, r.Number, zab.Answer{Code: api.ErrArg})
	}
	m.behind()
}

func (m *model) write(r zab.Request) {
	x := r.T
	e := api.OK
	if !m.node.Leads() {
		e = api.ErrZabLeader
	} else if x.Kind == 5 {
		e = api.ErrArg
	} else {
		if x.Kind == 1 || x.Kind == 2 {
			x.Now = m.now
		}
		e = m.offer(x)
	}
	if e != api.OK {
		m.answer(r.From, r.Number, zab.Answer{Code: e})
		return
	}
	view, _ := m.node.Views()
	m.waits = append(m.waits, waiter{len(m.node.Log()), view, r.From, r.Number})
}

func (m *model) offer(x zstate.Txn) api.Errno {
	b, e := zstate.Encode(x)
	if e != api.OK {
		return api.ErrStateForm
	}
	if !m.node.Offer(string(b)) {
		return api.ErrZabFull
	}
	return api.OK
}

func (m *model) read(r zab.Request) {
	if m.state.Zxid() < r.Seen {
		m.answer(r.From, r.Number, zab.Answer{Code: api.ErrZabBehind})
		return
	}
	var a zab.Answer
	if r.Kind == 2 {
		a.Node, a.Is = m.state.Tree().Get(r.Path)
	} else {
		a.Kids, a.Is = m.state.Tree().Kids(r.Path)
	}
	m.answer(r.From, r.Number, a)
	if _, is := m.state.Leases().Get(r.T.Session); is && r.Watch {
		m.watches.Add(watcher.Watch{Session: r.T.Session, Path: r.Path, Kids: r.Kind == 3})
	}
}

func (m *model) take(p api.Packet) {
	m.node.Take(p)
	if promised, _ := m.node.Views(); p.From == promised%m.many {
		m.timer.Heard()
	}
	m.behind()
}

func (m *model) tick() {
	m.now++
	lead, nudge := m.timer.Tick(m.node.Leads())
	if lead {
		promised, _ := m.node.Views()
		view, _ := elect.View(promised, m.self, m.many)
		m.node.Lead(view)
	}
	if nudge {
		m.node.Nudge()
	}
	if m.node.Leads() && m.applied == len(m.node.Log()) {
		for _, x := range m.state.Leases().All() {
			if m.now-x.Last > x.Span {
				m.offer(zstate.Txn{Kind: 5, Session: x.Id, Now: x.Last})
				break
			}
		}
	}
	m.behind()
}

// behind does what stands behind each call.
func (m *model) behind() {
	log := m.node.Log()
	m.timeouts(func(w waiter) bool {
		return !slices.ContainsFunc(log, func(x api.Entry) bool { return x.Number == w.entry && x.View == w.view })
	})
	for m.applied < m.node.Commit() {
		m.apply(log[m.applied])
		m.applied++
	}
	if !m.node.Leads() || m.node.Dead() {
		m.timeouts(func(waiter) bool { return true })
	}
}

func (m *model) timeouts(over func(waiter) bool) {
	var left []waiter
	for _, w := range m.waits {
		if over(w) {
			m.answer(w.to, w.number, zab.Answer{Code: api.ErrTimeout})
		} else {
			left = append(left, w)
		}
	}
	m.waits = left
}

func (m *model) apply(x api.Entry) {
	r := zstate.Reply{Code: api.ErrStateForm}
	if t, e := zstate.Decode([]byte(x.Body)); e == api.OK {
		var l []api.Event
		r, l = m.state.Apply(x.Number, t)
		for _, e := range l {
			m.events = append(m.events, m.watches.Fire(e)...)
		}
	}
	if at := slices.IndexFunc(m.waits, func(w waiter) bool { return w.entry == x.Number }); at >= 0 {
		w := m.waits[at]
		m.waits = slices.Delete(m.waits, at, at+1)
		m.answer(w.to, w.number, zab.Answer{Code: r.Code, Reply: r})
	}
}

// pair is a server, and the model of it.
type pair struct {
	*server
	m        *model
	roll     func(int) int
	requests int
	told     []string     // all that was told
	gotten   []zab.Answer // what was told behind the last call
	heard    []api.Event
	sent     []api.Packet
}

func newPair(t *testing.T, self, many, span int, roll func(int) int) *pair {
	t.Helper()
	return &pair{server: fresh(t, self, many, span), m: newModel(t, platter.New(sectors), self, many, span), roll: roll}
}

// reopen opens both anew on what a crash leaves.
func (p *pair) reopen(keep, tear int) {
	p.t.Helper()
	p.server = on(p.t, p.disk.Crash(keep, tear), p.self, p.many, p.span)
	p.m = newModel(p.t, p.m.disk.Crash(keep, tear), p.self, p.many, p.span)
	p.same("Open")
}

func (p *pair) arm(k int) {
	p.disk.Arm(k)
	p.m.disk.Arm(k)
}

func (p *pair) ask(r zab.Request) {
	p.t.Helper()
	dead := p.m.node.Dead()
	p.Ask(r)
	if !dead {
		p.m.ask(r)
	} else if l := p.Answers(); slices.ContainsFunc(l, func(a zab.Answer) bool { return a.Code == api.OK }) { // all else is free
		p.t.Fatalf("P15.4: a dead node's server answers %s", short(l))
	}
	p.same(short(r))
}

func (p *pair) take(x api.Packet) {
	p.t.Helper()
	p.Take(x)
	p.m.take(x)
	p.same("a Take of " + shown([]api.Packet{x}))
}

func (p *pair) tick() {
	p.t.Helper()
	p.Tick()
	p.m.tick()
	p.same("a Tick")
}

// same asks that both tell the same, and have the same.
func (p *pair) same(what string) {
	p.t.Helper()
	p.gotten, p.heard, p.sent = p.Answers(), p.Events(), p.Out()
	if want := p.m.answers; !slices.EqualFunc(p.gotten, want, alike) {
		p.t.Fatalf("P15.4: behind %s it answers %s, not %s", what, short(p.gotten), short(want))
	}
	if want := p.m.events; !slices.Equal(p.heard, want) {
		p.t.Fatalf("P15.4: behind %s it tells %s, not %s", what, short(p.heard), short(want))
	}
	if want := p.m.node.Out(); !slices.Equal(p.sent, want) {
		p.t.Fatalf("P15.5: behind %s it sends %s, not %s", what, shown(p.sent), shown(want))
	}
	p.m.answers, p.m.events = nil, nil
	if is, want := p.picture(), p.m.picture(); is != want {
		p.t.Fatalf("P15.1: behind %s it has %s, not %s", what, short(is), short(want))
	}
	p.told = append(p.told, fmt.Sprint(p.gotten, p.heard, p.sent))
}

// picture is all that a model has, as a server's picture is.
func (m *model) picture() string {
	promised, normal := m.node.Views()
	return fmt.Sprint(m.now, promised, normal, m.node.Leads(), m.node.Commit(), m.node.Log(), m.node.Dead(), strings.Join(m.state.Pack(), "|"))
}

// anyPath is a path of a few names, most often.
func anyPath(roll func(int) int) string {
	if roll(30) == 0 {
		return pick(roll, "", "a", "/a/", "//")
	}
	return pick(roll, "/", "/a", "/a", "/a", "/b", "/b", "/c", "/a/x", "/b/x")
}

func anyChange(roll func(int) int) api.Change {
	c := api.Change{Kind: pick(roll, 1, 1, 1, 2, 3, 3, 4), Path: anyPath(roll), Data: pick(roll, "", "x", "yy"), Version: -1, Ephemeral: roll(3) == 0, Sequence: roll(9) == 0}
	switch roll(30) {
	case 0:
		c.Kind = roll(7) - 1
	case 1:
		c.Version = roll(4) - 2
	}
	return c
}

// session is one that a server's state has, most often.
func (p *pair) session() int {
	if l := p.m.state.Leases().All(); len(l) > 0 && p.roll(8) > 0 {
		return l[p.roll(len(l))].Id
	}
	return p.roll(12) - 1
}

// txn is a transaction that can be done, most often.
func (p *pair) txn() zstate.Txn {
	roll := p.roll
	x := zstate.Txn{Kind: pick(roll, 1, 2, 4, 4, 4, 4, 4, 4, 4, 4), Session: p.session(), Span: pick(roll, 1+roll(40), 100+roll(200), mostLease), Now: roll(60)}
	last, _, is := p.m.state.Last(x.Session)
	if !is && roll(4) > 0 {
		x.Kind = 1
	}
	x.Number = last + pick(roll, 1, 1, 1, 1, 2, 0, -1)
	if x.Kind == 4 {
		for range pick(roll, 1, 1, 1, 1, 1, 2, 2, roll(8)) {
			x.L = append(x.L, anyChange(roll))
		}
	}
	switch roll(30) {
	case 0:
		x.Kind = pick(roll, 3, 5, 0, 6, -1, 256)
	case 1:
		x.Now = -1
	case 2:
		x.Span = pick(roll, -1, 0, mostLease+1)
	}
	return x
}

// request is any that a server may be asked.
func (p *pair) request() zab.Request {
	roll := p.roll
	p.requests++
	r := zab.Request{From: roll(5) - 1, Number: p.requests, Kind: pick(roll, 1, 1, 2, 3), Seen: p.m.state.Zxid() + pick(roll, 0, 0, -1, -2, 1), Path: anyPath(roll), Watch: roll(3) > 0}
	if roll(40) == 0 {
		r.Kind = pick(roll, -1, 0, 4)
	}
	if r.T = p.txn(); r.Kind != 1 {
		r.T = zstate.Txn{Session: r.T.Session}
	}
	return r
}

// entries are some behind the first ones of the log, with Views that do not fall, up to a greatest one.
func (p *pair) entries(first, many, top int) []api.Entry {
	var l []api.Entry
	view := 1
	if first > 0 {
		view = p.m.node.Log()[first-1].View
	}
	for k := range many {
		view += p.roll(2)
		if first+k >= mostEntries || view > top {
			break
		}
		text := "none"
		if b, e := zstate.Encode(p.txn()); e == api.OK && len(b) <= mostBody && p.roll(9) > 0 {
			text = string(b)
		}
		l = append(l, api.Entry{View: view, Number: first + k + 1, Body: text})
	}
	return l
}

// log is one with which another member may join, or start, up to a greatest View: all that is committed here is in it.
func (p *pair) log(top int) []api.Entry {
	own := p.m.node.Log()
	for len(own) > 0 && own[len(own)-1].View > top {
		own = own[:len(own)-1]
	}
	keep := max(len(own)-p.roll(4), min(p.m.node.Commit(), len(own)))
	return append(own[:keep], p.entries(keep, p.roll(3), top)...)
}

// packet is a message that another member may send.
func (p *pair) packet() api.Packet {
	roll := p.roll
	promised, normal := p.m.node.Views()
	view, length := max(promised, 1), len(p.m.node.Log())
	later := promised + 1 + roll(2*p.many)
	var m order.Message
	switch started := promised == normal; {
	case roll(50) == 0:
		m = start(later, p.log(later-1))
	case roll(50) == 0:
		m = ask(pick(roll, later, later, view))
	case p.m.node.Leads() && !started:
		m = join(view, normal, p.log(normal))
	case p.m.node.Leads():
		m = ack(view, max(length-roll(9), 0))
	case !started:
		m = start(view, p.log(view-1))
	case roll(2) == 0:
		m = put(view, length, p.entries(length, 1+roll(2), view))
	default:
		m = tell(view, max(length-pick(roll, 0, 0, 1, 2), 0))
	}
	from := m.View % p.many
	if m.Kind == 2 || m.Kind == 5 || roll(12) == 0 {
		from = (p.self + 1 + roll(max(p.many-1, 1))) % p.many
	}
	x := packet(p.t, from, p.self, m)
	switch roll(40) {
	case 0:
		x.To = roll(p.many)
	case 1:
		x.Body = "none"
	}
	return x
}

// step does something with both.
func (p *pair) step() {
	p.t.Helper()
	switch at := p.roll(1000); {
	case p.m.node.Dead() && at < 200 || at < 3:
		p.reopen(p.roll(p.disk.Pending()+1), p.roll(api.Sector+1))
	case at < 6:
		p.arm(1 + p.roll(30))
	case at < 30: // till it leads
		for n := 0; n < 60 && !p.m.node.Leads(); n++ {
			p.tick()
		}
	case at < 150 || p.many == 1 && at < 500:
		p.tick()
	case p.many > 1 && at < 600:
		p.take(p.packet())
	default:
		p.ask(p.request())
	}
}

// Of many mixed calls: all that a server answers, tells, sends, and has.
func TestManyMixedCalls(t *testing.T) {
	oks, late, errors, told, applied := 0, 0, 0, 0, 0
	for seed := range uint64(150) {
		many := []int{1, 3, 3, 5, 2}[seed%5]
		p := newPair(t, int(seed/5)%many, many, 1+int(seed)%3, dice(seed))
		for range 350 {
			was := p.m.applied
			p.step()
			applied += max(p.m.applied-was, 0)
			for _, a := range p.gotten {
				oks += count(a.Code == api.OK && a.Node == api.Znode{} && len(a.Kids) == 0)
				late += count(a.Code == api.ErrTimeout)
				errors += count(a.Reply.Code != api.OK)
			}
			told += len(p.heard)
		}
	}
	if oks < 5000 || late < 300 || errors < 1000 || told < 400 || applied < 5000 {
		t.Errorf("too little was done: %d, %d, %d, %d, %d", oks, late, errors, told, applied)
	}
}

// walk does many calls at one server, and tells all that was told.
func walk(t *testing.T, seed uint64) []string {
	t.Helper()
	p := newPair(t, 1, 3, 1, dice(seed))
	for range 300 {
		p.step()
	}
	return append(p.told, p.picture(), content(p.disk))
}

func TestTheSameCallsTellTheSame(t *testing.T) {
	for seed := range uint64(8) {
		first := walk(t, seed)
		walk(t, seed+1) // other calls make no difference
		if again := walk(t, seed); !slices.Equal(first, again) {
			t.Errorf("R7: seed %d: the same calls tell others", seed)
		}
	}
}
