package zab_test

import (
	"fmt"
	"math"
	"slices"
	"strings"
	"testing"

	"harpsichord/api"
	"harpsichord/zab"
	"harpsichord/zstate"
)

// refused are transactions that zstate.Encode refuses, whatever the clock.
func refused() []zstate.Txn {
	return []zstate.Txn{
		{Kind: -1},
		{Kind: 256},
		{Kind: 1, Span: -1},
		{Kind: 1, Session: -1},
		{Kind: 2, Session: most + 1},
		{Kind: 2, Number: -1},
		{Kind: 3, Now: -1},
		{Kind: 3, Now: most + 1},
		{Kind: 4, Now: -1},
		{Kind: 4, Session: math.MinInt},
		{Kind: 6, Now: -1},
		change(1, 1, slices.Repeat([]api.Change{create("/a")}, 7)...),
		change(1, 1, api.Change{Kind: 256, Path: "/a"}),
		change(1, 1, api.Change{Kind: -1, Path: "/a"}),
		change(1, 1, api.Change{Kind: api.Delete, Path: "/a", Version: -2}),
		change(1, 1, create(strings.Repeat("a", api.MaxText+1))),
		change(1, 1, set("/a", strings.Repeat("a", api.MaxText+1))),
		change(1, 1, slices.Repeat([]api.Change{set("/a", strings.Repeat("a", api.MaxText))}, 6)...),
	}
}

// inOrder are transactions of all kinds, with which nothing is amiss but that one is of kind 5.
func inOrder() []zstate.Txn {
	return []zstate.Txn{opening(9), renewal(1), closing(1), change(1, 1, create("/a")), {Kind: 0}, {Kind: 6}, {Kind: 255}}
}

func TestWriteAtWhoDoesNotLead(t *testing.T) {
	deposed := leads(t, 1, 3)
	deposed.hears(2, ask(5))
	deposed.Out()
	for what, s := range map[string]*server{
		"a new server":          fresh(t, 1, 3, 1),
		"a new server alone":    fresh(t, 0, 1, 1),
		"who follows":           follows(t, 0, 3, 2, made(t, 0, 1, opening(9))),
		"who was deposed":       deposed,
		"who led ahead of Open": leads(t, 0, 1).again(),
	} {
		for _, x := range slices.Concat(inOrder(), refused(), []zstate.Txn{ending(1, 0), {Kind: 5, Span: -1}}) {
			s.refuses("P15.2: "+what, write(3, 8, x), api.ErrZabLeader)
		}
	}
}

// Who asks, and has not started, leads; its node's Offer is false.
func TestWriteAtWhoHasNotStarted(t *testing.T) {
	s := fresh(t, 1, 3, 1)
	s.ticks(3)
	if !s.Node().Leads() {
		t.Fatal("P15.3: it does not lead")
	}
	s.Out()
	for _, x := range inOrder() {
		s.refuses("P15.2: who has not started", write(3, 8, x), api.ErrZabFull)
	}
	for _, x := range refused() {
		s.refuses("P15.2: what Encode refuses comes ahead of Offer", write(3, 8, x), api.ErrStateForm)
	}
	for _, x := range []zstate.Txn{ending(1, 0), {Kind: 5, Span: -1}} {
		s.refuses("P15.2: kind 5 comes ahead of Offer", write(3, 8, x), api.ErrArg)
	}
}

func TestWriteRefused(t *testing.T) {
	for _, s := range []*server{leads(t, 0, 1), leads(t, 1, 3)} {
		for _, x := range refused() {
			s.refuses("P15.2: "+short(x), write(-3, math.MaxInt, x), api.ErrStateForm)
		}
		for _, x := range []zstate.Txn{ending(1, 0), ending(0, 0), {Kind: 5, Span: -1}, {Kind: 5, Session: -1}} {
			s.refuses("P15.2: kind 5", write(3, math.MinInt, x), api.ErrArg)
		}
	}
}

// In T Now becomes the clock, if its kind is 1 or 2; else it stays. All else stays as it is.
func TestWhatIsOffered(t *testing.T) {
	for _, now := range []int{3, 5, 1000} {
		s := leads(t, 1, 3)
		s.ticks(now - s.Now())
		s.Out()
		for _, given := range []int{0, 7, -1, math.MinInt, math.MaxInt} {
			for _, x := range []zstate.Txn{opening(9), renewal(1), {Kind: 1, Session: 4, Number: 5, Span: 6}, {Kind: 2, Session: 4, Number: 5, Span: 6}} {
				s = s.underWay(write(0, 0, at(given, x)), at(now, x))
			}
		}
		for _, given := range []int{0, 7, now + 1, most} {
			for _, x := range inOrder()[2:] {
				s = s.underWay(write(0, 0, at(given, x)), at(given, x))
			}
		}
	}
}

// underWay asks that a request waits, and that just this transaction is offered for it; it answers a server whose log has room for more.
func (s *server) underWay(r zab.Request, x zstate.Txn) *server {
	s.t.Helper()
	if len(s.Node().Log()) == mostEntries {
		now := s.Now()
		s = leads(s.t, s.self, s.many)
		s.ticks(now - s.Now())
		s.Out()
	}
	entries := len(s.Node().Log())
	s.Ask(r)
	s.answers("P15.2: it waits")
	s.offered("P15.2: "+short(r.T), entries+1, x)
	view, _ := s.Node().Views()
	m := put(view, entries, s.Node().Log()[entries:])
	s.sends("P15.2: the entry that is offered", packet(s.t, s.self, 0, m), packet(s.t, s.self, 2, m))
	return s
}

func TestTheClockIsTheLeases(t *testing.T) {
	s := leads(t, 0, 1)
	s.ticks(5)
	s.done(at(100, opening(20)))
	if x, _ := s.State().Leases().Get(1); x.Last != 7 || x.Span != 20 {
		t.Errorf("P15.2: opened at 7, the lease is %v", x)
	}
	s.ticks(4)
	s.done(at(1, renewal(1)))
	if x, _ := s.State().Leases().Get(1); x.Last != 11 {
		t.Errorf("P15.2: renewed at 11, the lease is %v", x)
	}
}

func TestAFullLog(t *testing.T) {
	for _, many := range []int{1, 3} {
		s := leads(t, many/2, many)
		for n := range mostEntries - 1 {
			s.Ask(write(5, n, zstate.Txn{Kind: 6}))
		}
		s.acked(mostEntries - 1)
		if l := s.Answers(); len(l) != mostEntries-1 {
			t.Fatalf("P15.4: %d are answered", len(l))
		}
		s.Ask(write(5, 7, opening(9)))
		s.acked(mostEntries)
		s.answers("P15.2: room for one more", reply(5, 7, mostEntries, session(mostEntries)))
		s.Out()
		for _, x := range inOrder() {
			s.refuses("P15.2: a full log", write(5, 8, x), api.ErrZabFull)
		}
		s.refuses("P15.2: a full log, and kind 5", write(5, 8, ending(mostEntries, 2)), api.ErrArg)
		s.refuses("P15.2: a full log, and what Encode refuses", write(5, 8, refused()[0]), api.ErrStateForm)
		s.reads(get("/"), list("/"))
		was := s.picture()
		if many == 1 {
			s.ticks(30)
			s.answers("P15.3: the end of a session, for which there is no room")
			if s.zxid() != mostEntries || len(s.sessions()) != 1 {
				t.Errorf("P15.3: behind %s it has %s", short(was), short(s.picture()))
			}
		}
	}
}

func TestALongBody(t *testing.T) {
	s := leads(t, 0, 1)
	s.done(opening(9), change(1, 1, create("/a")))
	x := change(1, 2, set("/a", ""))
	room := mostBody - len(body(t, x))
	x.L[0].Data = strings.Repeat("x", room+1)
	s.refuses("P15.2: a Body of 201 bytes", write(5, 8, x), api.ErrZabFull)
	x.L[0].Data = strings.Repeat("x", api.MaxText)
	s.refuses("P15.2: a Body of more than 1000 bytes", write(5, 8, x), api.ErrZabFull)
	x.L[0].Data = strings.Repeat("x", room)
	s.asks(write(5, 8, x))
	s.answers("P15.2: a Body of 200 bytes", reply(5, 8, 3, paths("/a")))
}

// Behind each request its answer, at one alone: all that a transaction is answered.
func TestAnswersOfWrites(t *testing.T) {
	s := leads(t, 0, 1)
	for n, x := range []struct {
		txn  zstate.Txn
		want zstate.Reply
	}{
		{opening(1000), session(1)},
		{opening(0), code(api.ErrArg)},
		{opening(mostLease + 1), code(api.ErrArg)},
		{opening(1000), session(4)},
		{change(4, 2, create("/a"), ephemeral("/a/b"), api.Change{Kind: api.Create, Path: "/a/n-", Sequence: true}), paths("/a", "/a/b", "/a/n-0000000001")},
		{change(4, 2, create("/zzz")), paths("/a", "/a/b", "/a/n-0000000001")},
		{change(4, 1, create("/zzz")), code(api.ErrArg)},
		{change(4, 3, create("/c"), create("/a")), code(api.ErrTreeExists)},
		{change(4, 4), paths()},
		{change(3, 5, create("/c")), code(api.ErrLeaseNone)},
		{renewal(4), zstate.Reply{}},
		{renewal(3), code(api.ErrLeaseNone)},
		{closing(4), zstate.Reply{}},
		{closing(4), code(api.ErrLeaseNone)},
		{zstate.Txn{Kind: 0}, code(api.ErrArg)},
		{zstate.Txn{Kind: 6, Session: 1}, code(api.ErrArg)},
		{zstate.Txn{Kind: 255}, code(api.ErrArg)},
	} {
		to, number := 3*n-5, 1000-7*n
		s.Ask(write(to, number, x.txn))
		s.answers(fmt.Sprintf("P15.4: entry %d, %s", n+1, short(x.txn)), reply(to, number, n+1, x.want))
		s.isAt("P15.4: entry n has the zxid n", n+1)
	}
}

// What a writer asks beside T counts for nothing.
func TestWritesDoNotRead(t *testing.T) {
	s := leads(t, 0, 1)
	s.done(opening(1000))
	s.asks(zab.Request{Kind: 1, Seen: 99, Path: "/", Watch: true, T: change(1, 1, create("/a"))})
	s.answers("P15.2: Seen is asked of who reads", reply(0, 0, 2, paths("/a")))
	s.done(change(1, 2, create("/b"), set("/", "x")))
	s.tells("P15.2: Watch is of who reads")
}
