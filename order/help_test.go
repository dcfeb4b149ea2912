package order_test

import (
	"fmt"
	"math"
	"slices"
	"strconv"
	"strings"
	"testing"

	"harpsichord/api"
	"harpsichord/order"
	"harpsichord/platter"
)

// The bounds that the document names.
const (
	mostView    = 1 << 62
	mostEntries = 150
	mostBody    = 200
	sectors     = 1100
)

// sent is a message, and to whom it goes.
type sent struct {
	to int
	m  order.Message
}

// member is a node, and what it is of.
type member struct {
	*order.Node
	t          *testing.T
	disk       *platter.Disk
	self, many int
}

// on opens a node on a disk.
func on(t *testing.T, d *platter.Disk, self, many int) *member {
	t.Helper()
	n, e := order.Open(d, self, many)
	if e != api.OK || n == nil {
		t.Fatalf("P13.1: Open of member %d of %d is %d", self, many, e)
	}
	return &member{n, t, d, self, many}
}

// fresh is a node on a new disk.
func fresh(t *testing.T, self, many int) *member {
	t.Helper()
	return on(t, platter.New(sectors), self, many)
}

// again is the node that is found on what a crash leaves of the disk, of which all that waits is lost.
func (n *member) again() *member {
	n.t.Helper()
	return on(n.t, n.disk.Crash(0, 0), n.self, n.many)
}

// hears takes messages of another member.
func (n *member) hears(from int, l ...order.Message) {
	n.t.Helper()
	for _, m := range l {
		s, e := order.Encode(m)
		if e != api.OK {
			n.t.Fatalf("P13: Encode(%s) is %d", short(m), e)
		}
		n.Take(api.Packet{From: from, To: n.self, Body: s})
	}
}

// says is what the node sends.
func (n *member) says() []sent {
	n.t.Helper()
	var l []sent
	for _, p := range n.Out() {
		m, e := order.Decode(p.Body)
		if e != api.OK || p.From != n.self || p.To == n.self || p.To < 0 || p.To >= n.many {
			n.t.Fatalf("P13.5: member %d sends %d to %d from %d: %s", n.self, e, p.To, p.From, short(p.Body))
		}
		l = append(l, sent{p.To, m})
	}
	return l
}

// sends asks that the node sends just these messages, and none once more.
func (n *member) sends(what string, want ...sent) {
	n.t.Helper()
	if l := n.says(); !slices.EqualFunc(l, want, equal) {
		n.t.Fatalf("%s: member %d sends %s, not %s", what, n.self, short(l), short(want))
	}
	if l := n.Out(); len(l) != 0 {
		n.t.Fatalf("P13.5: %s: it sends %s once more", what, short(l))
	}
}

// reminds asks that the node sends just these messages to each member, in that order; of each kind it goes to rising members.
func (n *member) reminds(what string, want ...sent) {
	n.t.Helper()
	l := n.says()
	last := map[int]int{}
	for _, x := range l {
		if x.to < last[x.m.Kind] {
			n.t.Fatalf("%s: member %d sends %s", what, n.self, short(l))
		}
		last[x.m.Kind] = x.to
	}
	if !slices.EqualFunc(byMember(l), byMember(want), equal) {
		n.t.Fatalf("%s: member %d sends %s, not %s", what, n.self, short(l), short(want))
	}
}

// byMember are messages by rising members, each one's in their order.
func byMember(l []sent) []sent {
	l = slices.Clone(l)
	slices.SortStableFunc(l, func(a, b sent) int { return a.to - b.to })
	return l
}

// has asks for what the node has; its log is a line as that of lay.
func (n *member) has(what string, promised, normal int, leads bool, commit int, log string) {
	n.t.Helper()
	p, q := n.Views()
	if p != promised || q != normal || n.Leads() != leads || n.Commit() != commit || line(n.Log()) != log || n.Dead() {
		n.t.Fatalf("%s: member %d has %d, %d, %v, %d, %s; dead: %v; not %d, %d, %v, %d, %s", what, n.self, p, q, n.Leads(), n.Commit(), short(line(n.Log())), n.Dead(), promised, normal, leads, commit, short(log))
	}
}

// lasts asks that what the node has is found behind a crash, and nothing else.
func (n *member) lasts(what string) {
	n.t.Helper()
	p, q := n.Views()
	found := n.again()
	found.has("P13.1: "+what+": what lasts", p, q, false, 0, line(n.Log()))
	found.sends("P13.1: " + what + ": of what lasts")
}

// led is a node that has started a view of which it is the Primary, and of whose messages none is left; the others joined with nothing.
func led(t *testing.T, view, self, many int) *member {
	t.Helper()
	n := fresh(t, self, many)
	lead(n, view)
	return n
}

// lead lets a node start a view, joined by others with nothing.
func lead(n *member, view int) {
	n.t.Helper()
	if !n.Lead(view) {
		n.t.Fatalf("P13.2: Lead(%d) of member %d of %d is false", view, n.self, n.many)
	}
	for k := range n.many {
		if k != n.self {
			n.hears(k, join(view, 0, nil))
		}
	}
	if _, normal := n.Views(); normal != view || !n.Leads() {
		n.t.Fatalf("P13.2: member %d of %d has not started view %d", n.self, n.many, view)
	}
	n.Out()
}

// following is a node that took a view's log, and of whose messages none is left.
func following(t *testing.T, self, many, view int, log string) *member {
	t.Helper()
	n := fresh(t, self, many)
	n.hears(view%many, start(view, lay(log)))
	n.has("P13.4: a Start", view, view, false, 0, log)
	n.Out()
	return n
}

// offers lets a node that leads put entries behind its log.
func (n *member) offers(all ...string) {
	n.t.Helper()
	for _, s := range all {
		if !n.Offer(s) {
			n.t.Fatalf("P13.3: Offer(%s) is false", short(s))
		}
	}
}

func ask(view int) order.Message {
	return order.Message{Kind: 1, View: view}
}

func join(view, normal int, l []api.Entry) order.Message {
	return order.Message{Kind: 2, View: view, Normal: normal, L: l}
}

func start(view int, l []api.Entry) order.Message {
	return order.Message{Kind: 3, View: view, L: l}
}

func put(view, number int, l []api.Entry) order.Message {
	return order.Message{Kind: 4, View: view, Number: number, L: l}
}

func ack(view, number int) order.Message {
	return order.Message{Kind: 5, View: view, Number: number}
}

func tell(view, number int) order.Message {
	return order.Message{Kind: 6, View: view, Number: number}
}

// others are all members but one, to each of whom the messages go, one behind the other.
func others(self, many int, l ...order.Message) []sent {
	var all []sent
	for _, m := range l {
		for k := range many {
			if k != self {
				all = append(all, sent{k, m})
			}
		}
	}
	return all
}

// lay is a log of words, each a View and a Body.
func lay(words string) []api.Entry {
	return behind(0, words)
}

// behind are such entries behind so many others.
func behind(many int, words string) []api.Entry {
	var l []api.Entry
	for _, w := range strings.Fields(words) {
		body := strings.TrimLeft(w, "0123456789")
		view, _ := strconv.Atoi(strings.TrimSuffix(w, body))
		l = append(l, api.Entry{View: view, Number: many + len(l) + 1, Body: body})
	}
	return l
}

// line is a log's words. Each entry whose Number is not its place has it in front.
func line(l []api.Entry) string {
	var words []string
	for at, x := range l {
		w := fmt.Sprint(x.View) + x.Body
		if x.Number != at+1 {
			w = fmt.Sprint(x.Number, ":", w)
		}
		words = append(words, w)
	}
	return strings.Join(words, " ")
}

// many are the words of a log of so many entries, whose bodies are as long as they may be.
func many(entries, view int) string {
	var words []string
	for k := range entries {
		words = append(words, fmt.Sprint(view)+long(mostBody-4)+"x"+string(rune('a'+k/26%26))+string(rune('a'+k%26))+"x")
	}
	return strings.Join(words, " ")
}

func long(n int) string {
	return strings.Repeat("b", n)
}

func same(a, b order.Message) bool {
	return a.Kind == b.Kind && a.View == b.View && a.Normal == b.Normal && a.Number == b.Number && slices.Equal(a.L, b.L)
}

func equal(a, b sent) bool {
	return a.to == b.to && same(a.m, b.m)
}

// short is anything as a text that can be read.
func short(x any) string {
	s := fmt.Sprintf("%+v", x)
	if len(s) > 400 {
		s = s[:400] + " .."
	}
	return s
}

// dice tells numbers below n, always the same ones for a seed.
func dice(seed uint64) func(n int) int {
	x := seed*0x9e3779b97f4a7c15 + 1
	return func(n int) int {
		x = x*6364136223846793005 + 1442695040888963407
		return int(x>>33) % n
	}
}

// pick is one of a list.
func pick[T any](roll func(int) int, l ...T) T {
	return l[roll(len(l))]
}

// content is all that was written last on a disk, of a dead one, too.
func content(d *platter.Disk) string {
	c := d.Crash(math.MaxInt, 0)
	var all strings.Builder
	for n := range c.Many() {
		b, _ := c.Read(n)
		all.Write(b)
	}
	return all.String()
}

// groups are how many members a group may have.
func groups() []int {
	return []int{1, 2, 3, 4, 5, 6, 7}
}

func quorum(many int) int {
	return many/2 + 1
}

func primary(view, many int) int {
	return view % many
}
