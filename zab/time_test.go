package zab_test

import (
	"reflect"
	"slices"
	"testing"
	"unsafe"

	"harpsichord/api"
	"harpsichord/order"
	"harpsichord/platter"
	"harpsichord/zstate"
)

// leadsIn asks that the server leads that view at the n-th tick, and not ahead of that.
func (s *server) leadsIn(what string, n, view int) {
	s.t.Helper()
	was, _ := s.Node().Views()
	s.ticks(n - 1)
	if p, _ := s.Node().Views(); p != was || s.Node().Leads() {
		s.t.Fatalf("%s: member %d of %d leads view %d ahead of tick %d", what, s.self, s.many, p, n)
	}
	s.sends(what + ": ahead of the tick")
	s.Tick()
	if p, _ := s.Node().Views(); p != view || !s.Node().Leads() {
		s.t.Fatalf("%s: at tick %d member %d of %d has view %d, and leads: %v; not view %d", what, n, s.self, s.many, p, s.Node().Leads(), view)
	}
}

// toOthers are messages that go to all others, by rising members, one behind the other.
func (s *server) toOthers(l ...order.Message) []api.Packet {
	s.t.Helper()
	var all []api.Packet
	for _, m := range l {
		for k := range s.many {
			if k != s.self {
				all = append(all, packet(s.t, s.self, k, m))
			}
		}
	}
	return all
}

func TestTheClock(t *testing.T) {
	s := fresh(t, 1, 3, 2)
	for n := range 100 {
		if s.Now() != n {
			t.Fatalf("P15.3: behind %d ticks the clock is %d", n, s.Now())
		}
		s.hears(2, ask(5+3*n))
		s.asks(get("/"), write(0, 0, opening(9)))
		if s.Now() != n {
			t.Fatalf("P15.3: the clock is %d, and it was %d ahead of a Take and an Ask", s.Now(), n)
		}
		s.Tick()
	}
}

// setClock lets a server's clock be another one, which no calls of a test could be: the one field that has what Now tells.
func (s *server) setClock(now int) bool {
	was := s.Now()
	all := reflect.ValueOf(s.Server).Elem()
	for n := range all.NumField() {
		f := all.Field(n)
		if f.Kind() == reflect.Int && f.Int() == int64(was) {
			reflect.NewAt(f.Type(), unsafe.Pointer(f.UnsafeAddr())).Elem().SetInt(int64(now))
			return s.Now() == now
		}
	}
	return false
}

func TestTheLastClock(t *testing.T) {
	s := fresh(t, 0, 1, mostSpan)
	s.ticks(777)
	if !s.setClock(api.MaxClock - 2) {
		t.Skip("there is no field that is the clock")
	}
	for _, want := range []int{api.MaxClock - 1, api.MaxClock, api.MaxClock, api.MaxClock} {
		s.Tick()
		if s.Now() != want {
			t.Errorf("P15.3: the clock is %d, not %d", s.Now(), want)
		}
	}
	s.ticks(2 * mostSpan)
	s.done(opening(9))
	s.ticks(20)
	if x, is := s.State().Leases().Get(1); !is || x.Last != api.MaxClock {
		t.Errorf("P15.3: opened at the last clock, and never ended: %v, %v", x, is)
	}
}

// Who hears nobody leads at its timer's Limit, nudges each span ticks, and, if it is deposed, leads again at the next Limit.
func TestTickLeads(t *testing.T) {
	for _, x := range []struct{ self, many, first int }{{0, 3, 3}, {1, 3, 1}, {2, 3, 2}, {0, 2, 2}, {4, 5, 4}, {6, 7, 6}} {
		for _, span := range []int{1, 2, 5} {
			s := fresh(t, x.self, x.many, span)
			limit := span * (x.self + 2)
			s.leadsIn("P15.3: a new server", limit, x.first)
			s.sends("P15.3: the node's Lead", s.toOthers(ask(x.first))...)
			for range 3 {
				s.ticks(span - 1)
				s.sends("P15.3: ahead of a nudge")
				s.Tick()
				s.sends("P15.3: who asks nudges", s.toOthers(ask(x.first))...)
			}
			other := (x.self + 1) % x.many
			view := 20*x.many + other
			s.hears(other, ask(view))
			s.Out()
			next := view + 1
			for next%x.many != x.self {
				next++
			}
			s.leadsIn("P15.3: who was deposed", limit+span*(x.many+2), next)
			s.sends("P15.3: the node's next Lead", s.toOthers(ask(next))...)
		}
	}
}

func TestTickNudges(t *testing.T) {
	s := fresh(t, 1, 3, 3)
	s.leadsIn("P15.3: a new server", 9, 1)
	s.joined()
	s.hears(0, ack(1, 0))
	for range 4 {
		s.ticks(2)
		s.sends("P15.3: ahead of a nudge")
		s.Tick()
		l := s.Out()
		slices.SortStableFunc(l, func(a, b api.Packet) int { return a.To - b.To })
		if want := []api.Packet{packet(t, 1, 0, put(1, 0, nil)), packet(t, 1, 0, tell(1, 0)), packet(t, 1, 2, start(1, nil)), packet(t, 1, 2, tell(1, 0))}; !slices.Equal(l, want) {
			t.Fatalf("P15.3: the node's Nudge is %s, not %s", shown(l), shown(want))
		}
	}
	s.ticks(2)
	s.hears(0, ack(1, 0))
	s.Tick()
	if kinds := s.says(); len(kinds) != 4 {
		t.Errorf("P15.3: who leads is heard, and sends %v at its next nudge", kinds)
	}
}

// A group of one starts at once.
func TestTickLeadsAlone(t *testing.T) {
	s := fresh(t, 0, 1, 3)
	s.leadsIn("P15.3: alone", 6, 1)
	s.sends("P15.3: alone")
	s.done(opening(mostLease))
	s.ticks(50)
	if p, n := s.Node().Views(); p != 1 || n != 1 || !s.Node().Leads() {
		t.Errorf("P15.3: who leads alone goes on to view %d, %d", p, n)
	}
}

// Behind the last view there is none to lead.
func TestNoNextView(t *testing.T) {
	s := fresh(t, 0, 3, 1)
	s.hears(most%3, ask(most))
	s.Out()
	s.ticks(60)
	s.sends("P15.3: there is no next view")
	if p, n := s.Node().Views(); p != most || n != 0 || s.Node().Leads() {
		t.Errorf("P15.3: behind the last view: %d, %d", p, n)
	}
}

func TestHeard(t *testing.T) {
	junk := api.Packet{To: 0, Body: "no message"}
	from := func(k int, p api.Packet) api.Packet {
		p.From = k
		return p
	}
	for _, x := range []struct {
		what     string
		promised int
		p        api.Packet
		heard    bool
		view     int // that of who leads next
	}{
		{"an Ask of a new view", 0, packet(t, 2, 0, ask(2)), true, 3},
		{"an Ask of a greater view", 2, packet(t, 1, 0, ask(4)), true, 6},
		{"an Ask of the same view", 2, packet(t, 2, 0, ask(2)), true, 3},
		{"an Ask of a lesser view, of another one", 2, packet(t, 1, 0, ask(1)), false, 3},
		{"an Ask of a lesser view, of the same one", 5, packet(t, 2, 0, ask(2)), true, 6},
		{"an Ask of a view that is another one's", 2, packet(t, 1, 0, ask(5)), false, 3},
		{"a Start", 2, packet(t, 2, 0, start(2, nil)), true, 3},
		{"a Start of a greater view", 2, packet(t, 1, 0, start(7, nil)), true, 9},
		{"a Put of a view whose log it has not", 2, packet(t, 2, 0, put(2, 0, nil)), true, 3},
		{"a Tell", 2, packet(t, 2, 0, tell(2, 0)), true, 3},
		{"a Tell of another one", 2, packet(t, 1, 0, tell(1, 0)), false, 3},
		{"a Join of another one", 2, packet(t, 1, 0, join(2, 0, nil)), false, 3},
		{"an Ack of another one", 2, packet(t, 1, 0, ack(2, 0)), false, 3},
		{"no message", 2, from(2, junk), true, 3},
		{"no message, of another one", 2, from(1, junk), false, 3},
		{"no message, of nobody", 2, from(-1, junk), false, 3},
		{"no message, of somebody else", 2, from(5, junk), false, 3},
		{"what is not for this node", 2, packet(t, 2, 1, ask(5)), true, 3},
		{"what is not for this node, of another one", 2, packet(t, 1, 2, ask(4)), false, 3},
	} {
		s := fresh(t, 0, 3, 5)
		if x.promised > 0 {
			s.hears(x.promised%3, ask(x.promised))
		}
		s.ticks(9)
		s.Take(x.p)
		s.Out()
		n := 1
		if x.heard {
			n = 10
		}
		s.leadsIn("P15.3: "+x.what, n, x.view)
	}
}

// Of view 0 member 0 is the Primary.
func TestHeardAheadOfAllViews(t *testing.T) {
	for _, x := range []struct{ from, n int }{{0, 15}, {2, 1}} {
		s := fresh(t, 1, 3, 5)
		s.ticks(14)
		s.Take(api.Packet{From: x.from, To: 1, Body: ""})
		s.leadsIn("P15.3: heard in view 0", x.n, 1)
	}
}

func TestAPacketForAnother(t *testing.T) {
	s := leads(t, 1, 3)
	s.asks(write(0, 0, opening(9)))
	s.Out()
	was := s.picture()
	for _, to := range []int{0, 2, -1, 3} {
		s.Take(packet(t, 0, to, ack(1, 1)))
		s.Take(packet(t, 2, to, ask(5)))
	}
	s.sends("P15.3: what is not for this node")
	s.answers("P15.3: what is not for this node")
	if s.picture() != was {
		t.Errorf("P15.3: behind what is not for it, it has %s, not %s", s.picture(), was)
	}
}

// Of three sessions that end at one time, the one with the least id first, one at each tick.
func TestSessionsEnd(t *testing.T) {
	s := leads(t, 0, 1)
	s.done(opening(7), opening(5), opening(5), opening(5), opening(100))
	s.done(change(2, 1, ephemeral("/two")), change(3, 1, ephemeral("/three")), change(1, 1, ephemeral("/one")))
	s.reads(watched(5, get("/two")), watched(5, list("/")))
	s.ticks(5)
	if len(s.Node().Log()) != 8 || s.Now() != 7 {
		t.Errorf("P15.3: at %d, when no Span has gone by, the log is %v", s.Now(), s.Node().Log())
	}
	for n, x := range []int{2, 3, 1, 4} { // 1 has ended as well at the third tick
		s.Tick()
		s.offered("P15.3: the end of a session", 9+n, ending(x, 2))
		s.isAt("P15.4: the end of a session", 9+n)
		if slices.Contains(s.sessions(), x) {
			t.Errorf("P15.3: session %d has not ended: %v", x, s.sessions())
		}
	}
	s.tells("P15.4: the end of a session", event(5, api.Deleted, "/two"), event(5, api.Children, "/"))
	s.ticks(10)
	s.answers("P15.3: nobody waits for the end of a session")
	if l := s.sessions(); len(s.Node().Log()) != 12 || !slices.Equal(l, []int{5}) || len(s.State().Tree().All()) != 1 {
		t.Errorf("P15.3: behind that there are sessions %v, %v", l, s.State().Tree().All())
	}
}

// A session that is renewed goes on; its end has the lease's Last.
func TestRenewedSessionsGoOn(t *testing.T) {
	s := leads(t, 0, 1)
	s.done(opening(5))
	for range 4 {
		s.ticks(5)
		s.done(renewal(1))
	}
	if l := s.sessions(); len(l) != 1 || len(s.Node().Log()) != 5 || s.Now() != 22 {
		t.Errorf("P15.3: renewed each 5 ticks, at %d there are sessions %v: %v", s.Now(), l, s.Node().Log())
	}
	s.ticks(5)
	if len(s.sessions()) != 1 {
		t.Error("P15.3: it ends when its Span has just gone by")
	}
	s.Tick()
	s.offered("P15.3: the end of a session that was renewed", 6, ending(1, 22))
	if len(s.sessions()) != 0 {
		t.Error("P15.3: it does not end")
	}
}

// Nothing ends as long as something of the log is not applied.
func TestEndsWaitForTheLog(t *testing.T) {
	s := leads(t, 1, 3)
	s.asks(write(0, 1, opening(4)), write(0, 2, opening(4)))
	s.hears(0, ack(1, 2))
	s.Answers()
	s.asks(write(0, 3, renewal(2)))
	s.ticks(20)
	if l := s.Node().Log(); len(l) != 3 {
		t.Fatalf("P15.3: it ends a session, and not all of its log is applied: %v", l)
	}
	s.hears(0, ack(1, 3))
	s.answers("P15.4: a renewal", reply(0, 3, 3, zstate.Reply{}))
	s.Out()
	s.Tick()
	s.offered("P15.3: all of the log is applied", 4, ending(1, 3))
	l := s.Out()
	want := s.toOthers(put(1, 3, s.Node().Log()[3:]))
	if len(l) < 2 || !slices.Equal(l[len(l)-2:], want) {
		t.Errorf("P15.3: behind its nudge it sends %s, not %s", shown(l), shown(want))
	}
	s.ticks(5)
	if l := s.Node().Log(); len(l) != 4 {
		t.Fatalf("P15.3: it ends a session once more: %v", l)
	}
	s.hears(2, ack(1, 4))
	s.Tick()
	s.offered("P15.3: the next one", 5, ending(2, 3))
	s.hears(2, ack(1, 5))
	s.ticks(5)
	s.answers("P15.3: nobody waits for the end of a session")
	if len(s.Node().Log()) != 5 || len(s.sessions()) != 0 {
		t.Errorf("P15.3: it has %s", s.picture())
	}
}

// Who follows, or asks, ends nothing; who has started, when its log is applied.
func TestWhoEndsSessions(t *testing.T) {
	s := follows(t, 0, 3, 2, made(t, 0, 1, opening(3)))
	s.hears(2, tell(2, 1))
	s.isAt("P15.4: a Tell", 1)
	for range 40 {
		s.hears(2, tell(2, 1))
		s.Tick()
	}
	if s.Node().Leads() || len(s.Node().Log()) != 1 {
		t.Errorf("P15.3: who follows has %s", s.picture())
	}
	s.ticksTillItLeads()
	s.ticks(3)
	if len(s.Node().Log()) != 1 {
		t.Errorf("P15.3: who asks has %s", s.picture())
	}
	s.hears(1, join(3, 0, nil))
	s.Tick()
	s.offered("P15.3: who has started, and has applied all ahead of it", 2, ending(1, 0))
}

// A log that is found anew is applied behind the tick at which the server leads; what has ended ends at the next one.
func TestEndsBehindOpen(t *testing.T) {
	s := leads(t, 0, 1)
	s.done(opening(9))
	s = on(t, s.disk.Crash(0, 0), 0, 1, 100)
	s.leadsIn("P15.3: alone", 200, 2)
	s.isAt("P15.4: what is there is applied", 1)
	if l := s.Node().Log(); len(l) != 1 {
		t.Fatalf("P15.3: the log was not applied yet, and there is %v", l)
	}
	s.Tick()
	s.offered("P15.3: at the next tick", 2, ending(1, 2))
	s.isAt("P15.4: the end", 2)
}

// An entry that is no transaction is applied too, though the state's Zxid stays.
func TestEndsBehindWhatIsNoTransaction(t *testing.T) {
	l := append(made(t, 0, 1, opening(3)), api.Entry{View: 1, Number: 2, Body: "none"})
	s := follows(t, 1, 3, 2, l)
	s.ticks(3)
	s.hears(0, join(4, 2, l), ack(4, 2))
	s.isAt("P15.4: what is no transaction", 1)
	s.Out()
	s.Tick()
	s.offered("P15.3: all of the log is applied", 3, ending(1, 0))
}

// What dies is left alone by time.
func TestTimeAtADeadNode(t *testing.T) {
	d := platter.New(sectors)
	s := on(t, d, 1, 3, 1)
	d.Arm(1)
	d.Sync()
	s.ticks(20)
	s.sends("P15.3: a dead node")
	if s.Now() != 20 || !s.Node().Dead() {
		t.Errorf("P15.3: the clock of a dead node's server is %d", s.Now())
	}
}
