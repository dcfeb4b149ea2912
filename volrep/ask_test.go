package volrep_test

import (
	"fmt"
	"math"
	"slices"
	"testing"

	"harpsichord/api"
	"harpsichord/order"
)

// inOrder are calls with which nothing is amiss.
func inOrder() []call {
	l, _ := eleven()
	return append(l, nth(1), makes(1000000, mostView, "a"), long(mostBody))
}

// dead is a server whose disk died by somebody else.
func (s *server) dead() *server {
	s.disk.Arm(1)
	s.disk.Sync()
	return s
}

func TestAskAtADeadNode(t *testing.T) {
	full := leads(t, 1, 3)
	full.fill(mostEntries)
	for what, s := range map[string]*server{
		"a new server":             fresh(t, 1, 3).dead(),
		"who leads":                leads(t, 1, 3).dead(),
		"who leads alone":          leads(t, 0, 1).dead(),
		"who leads with all of it": full.dead(),
		"who has not started":      asking(t, 1, 3).dead(),
		"who follows":              follows(t, 0, 3, 2, nil).dead(),
	} {
		s.Nudge() // behind which nobody waits
		s.Replies()
		for _, c := range slices.Concat(inOrder(), refused()) {
			s.refuses("P19.2: at a dead node's server, "+what, c, api.ErrTimeout)
		}
		if s.Lead(100*s.many + s.self) {
			t.Errorf("P19.2: at a dead node's server, %s: Lead is true", what)
		}
		s.Nudge()
		s.hears((s.self+1)%max(s.many, 2), ask(200*s.many+s.self+1))
		s.replies("P19.2: a dead node's server, " + what)
		s.sends("P19.2: a dead node's server, " + what)
	}
}

func TestAskAtWhoDoesNotLead(t *testing.T) {
	deposed := leads(t, 1, 3)
	deposed.hears(2, ask(5))
	deposed.Out()
	full := follows(t, 0, 3, 2, nil)
	for n := range mostEntries {
		full.hears(2, put(2, n, entries(t, n, 2, nth(n+1))))
	}
	full.Out()
	for what, s := range map[string]*server{
		"a new server":          fresh(t, 1, 3),
		"a new server alone":    fresh(t, 0, 1),
		"who follows":           follows(t, 0, 3, 2, entries(t, 0, 1, nth(1))),
		"who has a full log":    full,
		"who was deposed":       deposed,
		"who led ahead of Open": leads(t, 0, 1).again(),
	} {
		for _, c := range slices.Concat(inOrder(), refused()) {
			s.refuses("P19.2: "+what, c, api.ErrVolLeader)
		}
	}
}

// Who asks, and has not started, leads; its node's Offer is false.
func TestAskAtWhoHasNotStarted(t *testing.T) {
	s := asking(t, 1, 3)
	for _, c := range inOrder() {
		s.refuses("P19.2: who has not started", c, api.ErrVolFull)
	}
	for _, c := range refused() {
		s.refuses("P19.2: what Encode refuses comes ahead of Offer", c, api.ErrCallForm)
	}
}

func TestAskRefused(t *testing.T) {
	for _, s := range []*server{leads(t, 0, 1), leads(t, 1, 3)} {
		for _, c := range refused() {
			s.refuses("P19.2: "+short(c), c, api.ErrCallForm)
		}
	}
}

// A call is offered just if it has 200 bytes at most.
func TestALongCall(t *testing.T) {
	for _, s := range []*server{leads(t, 0, 1), leads(t, 1, 3)} {
		for _, bytes := range []int{mostBody + 1, mostBody + 2, 300, api.MaxText, api.MaxText + 200} {
			s.refuses(fmt.Sprintf("P19.2: a call of %d bytes", bytes), long(bytes), api.ErrCallForm)
		}
		s.Ask(long(mostBody))
		if l := s.Node().Log(); len(l) != 1 || len(l[0].Body) != mostBody {
			t.Errorf("P19.2: a call of 200 bytes: the log is %s", short(l))
		}
		s.acked(1)
		s.replies("P19.3: a call of 200 bytes", ok(long(mostBody), answer{Code: api.ErrFsDir}))
	}
}

// acked lets the first entries be acknowledged by all other members.
func (s *server) acked(number int) {
	s.t.Helper()
	view, _ := s.Node().Views()
	for k := range s.many {
		if k != s.self {
			s.hears(k, ack(view, number))
		}
	}
}

// fill lets the log have so many entries, all of which are done.
func (s *server) fill(many int) {
	s.t.Helper()
	var want []reply
	for n := 1; n <= many; n++ {
		c := lists(9, n)
		s.Ask(c)
		want = append(want, ok(c, answer{}))
	}
	s.acked(many)
	s.replies(fmt.Sprintf("P19.3: %d entries", many), want...)
	s.Out()
}

func TestAFullLog(t *testing.T) {
	for _, many := range []int{1, 3} {
		s := leads(t, many/2, many)
		s.fill(mostEntries - 1)
		s.Ask(makes(7, 1, "last"))
		s.acked(mostEntries)
		s.replies("P19.2: room for one more", ok(makes(7, 1, "last"), inode(2)))
		s.Out()
		for _, c := range inOrder() {
			s.refuses("P19.2: a full log", c, api.ErrVolFull)
		}
		for _, c := range refused() {
			s.refuses("P19.2: a full log, and what Encode refuses", c, api.ErrCallForm)
		}
		s.has("P19.3: a full log", mostEntries, "last")
	}
}

// Each call is an entry of the view that is led, with what Encode writes of it, and waits; one that reads, and one that was done already, too.
func TestWhatIsOffered(t *testing.T) {
	calls, answers := eleven()
	calls, answers = append(calls, calls[len(calls)-1]), append(answers, answer{})
	s := leads(t, 1, 3)
	var want []reply
	for k, c := range calls {
		s.Ask(c)
		l := s.Node().Log()
		if len(l) != k+1 || l[k] != (api.Entry{View: 1, Number: k + 1, Body: body(t, c)}) {
			t.Fatalf("P19.2: behind %s the log is %s", short(c), short(l))
		}
		s.replies("P19.2: it waits")
		s.sends("P19.2: the entry that is offered", s.toOthers(put(1, k, l[k:]))...)
		want = append(want, ok(c, answers[k]))
	}
	s.has("P19.3: nothing is committed", 0)
	s.hears(0, ack(1, len(calls)))
	s.replies("P19.3: all that a quorum has", want...)
	s.has("P19.3: all that a quorum has", len(calls), "a", "l")
}

// A server alone in its group replies to each call at once.
func TestOneAlone(t *testing.T) {
	calls, answers := eleven()
	s := leads(t, 0, 1)
	for k, c := range calls {
		s.oks(c, answers[k])
		s.oks(c, answers[k])
		if n := s.Applied(); n != 2*k+2 {
			t.Errorf("P19.3: %d entries were applied behind %d calls, each asked twice", n, k+1)
		}
	}
	s.sends("P19.2: it has nobody to send to")
}

// A call with an error of the file system, or of the table, was done: its reply is OK, and has that answer.
func TestErrorsOfCalls(t *testing.T) {
	s := leads(t, 0, 1)
	s.oks(makes(1, 5, "a"), inode(2))
	for k, x := range []struct {
		c call
		e api.Errno
	}{
		{makes(1, 6, "a"), api.ErrFsExists},
		{makes(1, 7, "x/y"), api.ErrFsName},
		{looks(1, 8, "b"), api.ErrFsNone},
		{reads(1, 9, root), api.ErrFsDir},
		{reads(1, 10, handle{Id: 7, Gen: 7}), api.ErrFsStale},
		{call{Client: 1, Number: 11, Kind: kWrite, H: handle{Id: 2, Gen: 1}, At: 16 * room, B: "x", Time: api.MaxClock + 1}, api.ErrArg},
		{call{Client: 1, Number: 12, Kind: kCut, H: handle{Id: 2, Gen: 1}, N: api.MaxFile + 1}, api.ErrFsSpace},
		{makes(1, 5, "b"), api.ErrArg}, // a lesser Number
	} {
		s.oks(x.c, answer{Code: x.e})
		s.has("P19.3: an error", k+2, "a")
	}
}

// The room is that of the files.
func TestTheRoomIsUsed(t *testing.T) {
	s := leads(t, 0, 1)
	h := handle{Id: 2, Gen: 1}
	s.oks(makes(1, 1, "a"), inode(2))
	for n := range room {
		s.oks(call{Client: 1, Number: n + 2, Kind: kWrite, H: h, At: n * api.Block, B: "x"}, answer{})
	}
	s.oks(call{Client: 2, Number: 1, Kind: kWrite, H: h, At: room * api.Block, B: "x"}, answer{Code: api.ErrFsSpace})
}

func TestLead(t *testing.T) {
	s := fresh(t, 1, 3)
	for _, view := range []int{0, -2, -1, 2, 3, mostView + 1, math.MaxInt, math.MinInt} {
		if s.Lead(view) || s.Node().Leads() {
			t.Errorf("P19.2: member 1 of 3 leads view %d", view)
		}
	}
	s.isNew("behind a Lead that is false")
	if !s.Lead(4) || !s.Node().Leads() {
		t.Error("P19.2: member 1 of 3 does not lead view 4")
	}
	s.sends("P19.2: it asks", s.toOthers(ask(4))...)
	for _, view := range []int{1, 4, 5, 6} {
		if s.Lead(view) {
			t.Errorf("P19.2: behind view 4 member 1 of 3 leads view %d", view)
		}
	}
	if p, n := s.Node().Views(); p != 4 || n != 0 {
		t.Errorf("P19.2: it promised %d, and is in %d", p, n)
	}
	s.sends("P19.2: a Lead that is false")
	s.replies("P19.2: a Lead")
	view := mostView - mostView%3 - 2
	if !s.Lead(view) || s.Lead(view) {
		t.Errorf("P19.2: view %d", view)
	}
}

// What is sent again is the node's: an Ask, a Start, what is lacked, and how far all is committed.
func TestNudge(t *testing.T) {
	s := asking(t, 1, 3)
	s.Nudge()
	s.sends("P19.2: who asks", s.toOthers(ask(1))...)
	s.hears(2, join(1, 0, nil))
	s.Out()
	s.Nudge()
	s.sends("P19.2: who has started", s.toOthers(start(1, nil), tell(1, 0))...)
	s.asks(nth(1), nth(2))
	s.hears(0, ack(1, 1))
	s.replies("P19.3: one that a quorum has", done(1)...)
	s.Out()
	s.Nudge()
	l := s.Node().Log()
	s.sends("P19.2: what they lack", packet(t, 1, 0, put(1, 1, l[1:])), packet(t, 1, 0, tell(1, 1)), packet(t, 1, 2, start(1, nil)), packet(t, 1, 2, tell(1, 1)))
	s.replies("P19.2: a Nudge")
	f := follows(t, 0, 3, 2, nil)
	f.Nudge()
	f.sends("P19.2: who does not lead")
}

// What is not for it, of nobody, or no message is not taken.
func TestWhatIsNotTaken(t *testing.T) {
	s := waiting(t, 3)
	is := func(what string, l ...api.Packet) {
		t.Helper()
		was := s.picture()
		for _, p := range l {
			s.Take(p)
		}
		s.replies("P19.2: " + what)
		s.sends("P19.2: " + what)
		if s.picture() != was {
			t.Errorf("P19.2: %s: it has %s", what, short(s.picture()))
		}
	}
	of := func(from, to int) []api.Packet {
		var l []api.Packet
		for _, m := range []order.Message{ask(5), ask(6), start(5, nil), start(6, nil), ack(1, 4)} {
			l = append(l, packet(t, from, to, m))
		}
		return l
	}
	for _, to := range []int{0, 2, 3, -1, math.MaxInt} {
		is(fmt.Sprintf("a packet for %d", to), slices.Concat(of(0, to), of(2, to))...)
	}
	for _, from := range []int{1, 3, -1, 5, math.MinInt} {
		is(fmt.Sprintf("a packet of %d", from), of(from, 1)...)
	}
	for _, body := range []string{"", "none", packet(t, 2, 1, ask(5)).Body + "x", packet(t, 0, 1, ack(1, 4)).Body[:5]} {
		is("no message", api.Packet{From: 0, To: 1, Body: body}, api.Packet{From: 2, To: 1, Body: body})
	}
	is("a zero packet", api.Packet{})
	is("an Ask, a Start, of who is not that view's Primary", packet(t, 0, 1, ask(5)), packet(t, 2, 1, ask(6)), packet(t, 0, 1, start(5, nil)))
	is("what an older view's members send", packet(t, 0, 1, join(1, 0, nil)), packet(t, 2, 1, tell(1, 4)))
	s.hears(0, ack(1, 4))
	s.replies("P19.3: who waited is told", done(2, 3, 4)...)
}
