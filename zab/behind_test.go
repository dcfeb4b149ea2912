package zab_test

import (
	"fmt"
	"slices"
	"testing"

	"harpsichord/api"
	"harpsichord/order"
	"harpsichord/platter"
	"harpsichord/zab"
	"harpsichord/zstate"
)

// waiting is member 1 of 3, who leads view 1, with a session at zxid 1, and behind that as many requests that wait: number n is that of entry n.
func waiting(t *testing.T, many int) *server {
	t.Helper()
	s := leads(t, 1, 3)
	s.Ask(write(9, 1, opening(mostLease)))
	s.hears(0, ack(1, 1))
	s.answers("P15.4: a session", reply(9, 1, 1, session(1)))
	for n := range many {
		s.Ask(write(9, n+2, change(1, n+2, create(fmt.Sprintf("/n%d", n+2)))))
	}
	s.answers("P15.2: they wait")
	s.Out()
	return s
}

// lost are the answers ErrTimeout to these requests of such a server.
func lost(numbers ...int) []zab.Answer {
	var l []zab.Answer
	for _, n := range numbers {
		l = append(l, timeout(9, n, 1))
	}
	return l
}

// upTo are the numbers from one to another one.
func upTo(first, last int) []int {
	var l []int
	for n := first; n <= last; n++ {
		l = append(l, n)
	}
	return l
}

// An entry that is committed is answered, in order, each with its own zxid.
func TestWhatIsCommitted(t *testing.T) {
	for _, step := range []int{1, 2, 3, 12} {
		s := waiting(t, 12)
		for n := 1; n < 13; n += step {
			last := min(n+step, 13)
			s.hears(2, ack(1, last))
			var want []zab.Answer
			for _, k := range upTo(n+1, last) {
				want = append(want, reply(9, k, k, paths(fmt.Sprintf("/n%d", k))))
			}
			s.answers("P15.4: what is committed", want...)
			s.isAt("P15.4: entry n has the zxid n", last)
			s.hears(0, ack(1, last))
			s.hears(2, ack(1, last))
			s.answers("P15.4: what is committed is applied once")
			s.isAt("P15.4: what is committed is applied once", last)
		}
	}
}

// Less than a quorum commits nothing.
func TestWhatIsNotCommitted(t *testing.T) {
	s := leads(t, 2, 5)
	s.asks(write(9, 1, opening(9)))
	s.hears(0, ack(2, 1))
	s.ticks(30)
	s.answers("P15.4: two of five have it")
	s.isAt("P15.4: two of five have it", 0)
	s.hears(4, ack(2, 1))
	s.answers("P15.4: three of five have it", reply(9, 1, 1, session(1)))
}

// Who is asked by a greater view's Primary to join leads no more.
func TestWhoStopsLeading(t *testing.T) {
	for _, many := range []int{0, 1, 2, 40} {
		s := waiting(t, many)
		s.hears(2, ask(5))
		s.answers("P15.4: who leads no more", lost(upTo(2, many+1)...)...)
		s.isAt("P15.4: who leads no more", 1)
		s.hears(2, start(5, s.Node().Log()), tell(5, many+1))
		s.answers("P15.4: nobody waits for what is committed then")
		s.isAt("P15.4: who follows", many+1)
	}
}

// A later view's log stands in the place of what was offered.
func TestWhatTheLogHasLost(t *testing.T) {
	none := zstate.Txn{Kind: 6}
	s := waiting(t, 4)
	own := s.Node().Log()
	for _, x := range []struct {
		what  string
		views []int
		order []int
	}{
		{"all is lost", []int{1}, []int{2, 3, 4, 5}},
		{"all but one", []int{1, 1}, []int{3, 4, 5, 2}},
		{"half of it", []int{1, 1, 1}, []int{4, 5, 2, 3}},
		{"the last one", []int{1, 1, 1, 1}, []int{5, 2, 3, 4}},
		{"nothing", []int{1, 1, 1, 1, 1}, []int{2, 3, 4, 5}},
		{"nothing, and there is more", []int{1, 1, 1, 1, 1, 4}, []int{2, 3, 4, 5}},
		{"all have another view", []int{1, 3, 3, 4, 4}, []int{2, 3, 4, 5}},
		{"half of it has another view", []int{1, 1, 1, 3, 4, 4}, []int{4, 5, 2, 3}},
		{"the last one has another view", []int{1, 1, 1, 1, 2}, []int{5, 2, 3, 4}},
		{"one has another view, and others are not there", []int{1, 1, 3}, []int{3, 4, 5, 2}},
	} {
		var l []api.Entry
		for k, view := range x.views {
			if view == 1 {
				l = append(l, own[k])
			} else {
				l = append(l, made(t, k, view, none)...)
			}
		}
		s := waiting(t, 4)
		s.hears(2, start(5, l))
		s.answers("P15.4: "+x.what, lost(x.order...)...)
		s.isAt("P15.4: "+x.what, 1)
		s.hears(2, tell(5, len(l)))
		s.answers("P15.4: nobody waits any more")
		s.isAt("P15.4: "+x.what, len(l))
	}
}

// An entry that was made in an older view stands in the place of what was offered.
func TestWhatAnOlderViewHad(t *testing.T) {
	for many := 1; many <= 3; many++ {
		s := fresh(t, 1, 3, 1)
		s.hears(2, ask(2))
		s.ticksTillItLeads()
		s.joined()
		s.asks(write(9, 1, opening(9)), write(9, 2, opening(9)), write(9, 3, opening(9)))
		s.hears(2, start(5, made(t, 0, many, opening(7))))
		s.answers("P15.4: all is lost", timeout(9, 1, 0), timeout(9, 2, 0), timeout(9, 3, 0))
	}
}

// Many entries are lost, and more of them stand there with another view, whatever the order of a map.
func TestManyThatAreLost(t *testing.T) {
	s := waiting(t, 60)
	l := append(s.Node().Log()[:20], made(t, 20, 2, zstate.Txn{Kind: 6}, zstate.Txn{Kind: 6})...)
	s.hears(2, start(5, l))
	s.answers("P15.4: those that are lost, and then the others", lost(slices.Concat(upTo(21, 61), upTo(2, 20))...)...)
}

// Who leads anew is asked anew: what was offered in an older view is forgotten.
func TestWhoLeadsAnew(t *testing.T) {
	s := waiting(t, 3)
	s.hears(2, ask(2))
	s.answers("P15.4: who leads no more", lost(2, 3, 4)...)
	s.Out()
	s.ticksTillItLeads()
	s.Out()
	s.hears(0, join(4, 1, s.Node().Log()[:1]))
	s.asks(write(9, 50, renewal(1)))
	s.answers("P15.4: the next view is started")
	s.hears(0, ack(4, 5))
	s.answers("P15.4: the one who waits now", reply(9, 50, 5, zstate.Reply{}))
	s.isAt("P15.4: all of the log", 5)
}

// Who follows applies what it is told is committed, and tells its own watches.
func TestWhoFollows(t *testing.T) {
	s := follows(t, 0, 3, 2, made(t, 0, 1, opening(mostLease), opening(mostLease)))
	s.isAt("P15.4: nothing is committed", 0)
	s.hears(2, tell(2, 1))
	s.isAt("P15.4: one is committed", 1)
	s.hears(2, tell(2, 2))
	s.isAt("P15.4: two are committed", 2)
	s.reads(watched(2, list("/")), watched(1, get("/b")))
	s.hears(2, put(2, 2, made(t, 2, 2, change(1, 1, create("/a")), change(1, 2, create("/b")))))
	s.tells("P15.4: not committed yet")
	s.hears(2, tell(2, 3))
	s.tells("P15.4: the first one", event(2, api.Children, "/"))
	s.hears(2, tell(2, 3))
	s.hears(2, tell(2, 2))
	s.tells("P15.4: nothing is applied twice")
	s.hears(2, tell(2, 9))
	s.tells("P15.4: the second one", event(1, api.Created, "/b"))
	s.isAt("P15.4: all that is there", 4)
	s.answers("P15.4: nobody asked here")
}

// What is committed ahead of the start of a view is applied behind the Take in which it is told.
func TestTheJoinThatStarts(t *testing.T) {
	s := follows(t, 0, 3, 2, made(t, 0, 1, opening(9)))
	s.ticks(2)
	s.hears(1, join(3, 1, nil))
	s.isAt("P15.4: started, and not committed", 0)
	s.hears(1, ack(3, 1))
	s.isAt("P15.4: committed", 1)
}

func TestWhatIsNoTransaction(t *testing.T) {
	long := append(slices.Clone([]byte(body(t, opening(5)))), 0)
	for _, junk := range []string{"", "none", string(long), body(t, opening(5))[:20]} {
		l := made(t, 0, 1, opening(mostLease))
		l = append(l, api.Entry{View: 1, Number: 2, Body: junk})
		l = append(l, made(t, 2, 1, opening(8))...)
		s := follows(t, 0, 3, 2, l)
		s.hears(2, tell(2, 1))
		s.reads(watched(1, get("/")), watched(1, list("/")))
		s.hears(2, tell(2, 2))
		s.isAt("P15.4: what Decode refuses", 1)
		s.tells("P15.4: what Decode refuses")
		if a := s.one(seen(1, get("/"))); a.Zxid != 1 || a.Code != api.OK {
			t.Errorf("P15.4: behind what Decode refuses it reads %s", short(a))
		}
		s.hears(2, tell(2, 3))
		s.isAt("P15.4: behind what Decode refuses", 3)
		if l := s.sessions(); !slices.Equal(l, []int{1, 3}) {
			t.Errorf("P15.4: entry n has the zxid n, also behind what Decode refuses: sessions %v", l)
		}
		s.answers("P15.4: nobody asked here")
	}
}

// Behind what is no transaction requests wait for their own entries.
func TestRequestsBehindWhatIsNoTransaction(t *testing.T) {
	l := []api.Entry{{View: 1, Number: 1, Body: "none"}, {View: 1, Number: 2, Body: "none"}}
	s := follows(t, 1, 3, 2, l)
	s.ticks(3)
	s.hears(0, join(4, 2, l))
	s.asks(write(9, 7, opening(9)), write(9, 8, opening(9)))
	s.hears(0, ack(4, 1))
	s.answers("P15.4: what is no transaction is nobody's")
	s.isAt("P15.4: what is no transaction", 0)
	s.hears(0, ack(4, 4))
	s.answers("P15.4: behind what is no transaction", reply(9, 7, 3, session(3)), reply(9, 8, 4, session(4)))
}

// Of several entries, applied at once, all events in order; each watch is told once.
func TestEventsInOrder(t *testing.T) {
	s := leads(t, 1, 3)
	s.asks(write(0, 0, opening(mostLease)), write(0, 0, opening(mostLease)), write(0, 0, change(1, 1, create("/a"))))
	s.hears(0, ack(1, 3))
	s.Answers()
	s.reads(watched(2, get("/a")), watched(1, get("/a")), watched(1, list("/a")), watched(2, list("/")), watched(1, get("/b")), watched(1, get("/a/x")))
	s.asks(
		write(0, 1, change(1, 2, create("/a/x"), set("/a", "1"), create("/b"))),
		write(0, 2, change(1, 3, set("/a", "2"), create("/zzz/y"))),
		write(0, 3, change(2, 1, set("/b", "1"), remove("/a/x"), remove("/a"))),
	)
	s.Answers()
	s.tells("P15.4: nothing is committed")
	s.hears(0, ack(1, 6))
	s.tells("P15.4: of three entries",
		event(1, api.Created, "/a/x"), event(1, api.Children, "/a"),
		event(1, api.Changed, "/a"), event(2, api.Changed, "/a"),
		event(1, api.Created, "/b"), event(2, api.Children, "/"))
	s.answers("P15.4: of three entries", reply(0, 1, 4, paths("/a/x", "/a", "/b")), reply(0, 2, 5, code(api.ErrTreeParent)), reply(0, 3, 6, paths("/b", "/a/x", "/a")))
}

// Two watches of a session on one path are told of one event once, and are both gone.
func TestTwoWatchesOfASession(t *testing.T) {
	s := reader(t)
	s.reads(watched(1, get("/a/c")), watched(1, list("/a/c")), watched(2, list("/a/c")))
	s.done(change(1, 2, remove("/a/c")))
	s.tells("P15.4: Deleted", event(1, api.Deleted, "/a/c"), event(2, api.Deleted, "/a/c"))
	s.done(change(1, 3, create("/a/c"), create("/a/c/x"), remove("/a/c/x"), remove("/a/c")))
	s.tells("P15.6: each watch is told once")
}

// The end of a session, whoever asks for it, deletes what is its own, and tells who watches.
func TestTheEndOfASessionIsTold(t *testing.T) {
	s := reader(t)
	s.reads(watched(1, get("/b")), watched(1, list("/")))
	s.asks(write(0, 0, closing(2)))
	s.answers("P15.4: a session is closed", reply(0, 0, 5, zstate.Reply{}))
	s.tells("P15.4: a session is closed", event(1, api.Deleted, "/b"), event(1, api.Children, "/"))
}

// dies lets the disk die in step k of what is done; false, if there is no such step.
func (s *server) dies(k int, do func()) bool {
	s.disk.Arm(k)
	do()
	if !s.disk.Dead() {
		s.disk.Arm(0)
	}
	return s.disk.Dead()
}

// isDead asks that whatever a server is asked, and takes, it answers nothing that is OK, and sends and tells nothing.
func (s *server) isDead(what string) {
	s.t.Helper()
	zxid := s.zxid()
	for range 3 {
		s.asks(get("/"), list("/"), seen(zxid, get("/a")), watched(1, list("/")), zab.Request{}, zab.Request{Kind: 4})
		for _, x := range slices.Concat(inOrder(), refused(), []zstate.Txn{ending(1, 0)}) {
			s.Ask(write(8, 8, x))
		}
		for k := range s.many {
			view, _ := s.Node().Views()
			s.hears(k, ack(max(view, 1), len(s.Node().Log())), ask(view+s.many), start(view+2*s.many, nil), tell(max(view, 1), len(s.Node().Log())))
		}
		s.ticks(5)
	}
	for _, a := range s.Answers() {
		if a.Code == api.OK {
			s.t.Fatalf("P15.4: %s: a dead node's server answers %s", what, short(a))
		}
	}
	s.answers("P15.4: " + what)
	s.sends("P15.4: " + what)
	s.tells("P15.4: " + what)
	s.isAt("P15.4: "+what, zxid)
}

// deaths lets a disk die in each step of something, in one at a time, as long as there is such a step.
func deaths(t *testing.T, what string, die func(k int) bool) {
	t.Helper()
	steps := 0
	for die(steps + 1) {
		steps++
	}
	if steps == 0 {
		t.Errorf("P13.1: no disk dies in %s", what)
	}
}

// The disk dies in a request's own Offer: it is answered ErrTimeout, as all that wait.
func TestDyingInAnOffer(t *testing.T) {
	deaths(t, "an Offer", func(k int) bool {
		s := waiting(t, 20)
		if !s.dies(k, func() { s.Ask(write(9, 22, renewal(1))) }) {
			s.answers("P15.2: it waits")
			return false
		}
		s.answers("P15.4: the disk died", lost(upTo(2, 22)...)...)
		s.isDead(fmt.Sprintf("the disk died in step %d", k))
		return true
	})
	deaths(t, "an Offer alone", func(k int) bool {
		s := leads(t, 0, 1)
		s.done(opening(mostLease))
		if !s.dies(k, func() { s.Ask(write(9, 2, renewal(1))) }) {
			return false
		}
		s.answers("P15.4: the disk died", timeout(9, 2, 1))
		s.isDead(fmt.Sprintf("alone, the disk died in step %d", k))
		return true
	})
}

// The disk dies in what is taken: all that wait are answered ErrTimeout.
func TestDyingInATake(t *testing.T) {
	for what, do := range map[string]func(s *server){
		"an Ask of a view": func(s *server) { s.hears(2, ask(5)) },
		"a Start":          func(s *server) { s.hears(2, start(5, s.Node().Log()[:2])) },
	} {
		deaths(t, what, func(k int) bool {
			s := waiting(t, 20)
			if !s.dies(k, func() { do(s) }) {
				return false
			}
			l := s.Answers()
			slices.SortFunc(l, func(a, b zab.Answer) int { return a.Number - b.Number })
			if !slices.EqualFunc(l, lost(upTo(2, 21)...), alike) {
				t.Errorf("P15.4: the disk died in %s: it answers %s", what, short(l))
			}
			s.isDead("the disk died in " + what)
			return true
		})
	}
}

// The disk dies as time goes on.
func TestDyingInATick(t *testing.T) {
	deaths(t, "the end of a session", func(k int) bool {
		s := leads(t, 0, 1)
		s.done(opening(5))
		s.ticks(5)
		if !s.dies(k, s.Tick) {
			return false
		}
		s.answers("P15.4: the disk died in the end of a session")
		s.isDead("the disk died in the end of a session")
		return true
	})
	deaths(t, "the tick at which it leads", func(k int) bool {
		s := leads(t, 0, 1)
		s.done(opening(5))
		s = s.again()
		s.Tick()
		if !s.dies(k, s.Tick) {
			return false
		}
		s.isAt("P15.4: the disk died where it leads", 0)
		s.isDead("the disk died where it leads")
		return true
	})
}

// The disk dies by somebody else: behind the next call nobody waits.
func TestDyingByAnother(t *testing.T) {
	for what, do := range map[string]func(s *server){
		"a Tick":             func(s *server) { s.Tick() },
		"a Take":             func(s *server) { s.hears(0, ack(1, 21)) },
		"a Take of anything": func(s *server) { s.Take(api.Packet{}) },
	} {
		s := waiting(t, 20)
		s.dies(1, func() { s.disk.Sync() })
		do(s)
		s.answers("P15.4: behind "+what, lost(upTo(2, 21)...)...)
		s.isDead(what)
	}
	s := waiting(t, 20)
	s.dies(1, func() { s.disk.Sync() })
	s.Ask(get("/"))
	l := s.Answers()
	isRead := func(a zab.Answer) bool { return a.To == 0 && a.Code != api.OK }
	if waited := slices.DeleteFunc(slices.Clone(l), isRead); !slices.EqualFunc(waited, lost(upTo(2, 21)...), alike) {
		t.Errorf("P15.4: behind an Ask it answers %s", short(l))
	}
	s.isDead("an Ask")
}

// What a dead node's disk leaves is opened anew, and has all that was answered OK.
func TestOpenBehindADeath(t *testing.T) {
	deaths(t, "an Offer", func(k int) bool {
		s := leads(t, 0, 1)
		s.done(opening(mostLease), change(1, 1, create("/a")))
		if !s.dies(k, func() { s.Ask(write(0, 0, change(1, 2, create("/b")))) }) {
			return false
		}
		for keep := range s.disk.Pending() + 1 {
			for _, tear := range []int{0, 1, 7, api.Sector} {
				found(on(t, s.disk.Crash(keep, tear), 0, 1, 1))
			}
		}
		return true
	})
}

// found asks that a server has /a, which was answered OK, and perhaps /b, which was answered ErrTimeout, and that this is done once, if it is asked again.
func found(s *server) {
	s.t.Helper()
	s.ticks(2)
	n := s.zxid()
	if a := s.one(seen(2, get("/a"))); !a.Is || n < 2 || n > 3 {
		s.t.Fatalf("P15.6: behind a crash at zxid %d it reads %s", n, short(a))
	}
	if a := s.one(get("/b")); a.Is != (n == 3) {
		s.t.Fatalf("P15.6: behind a crash at zxid %d it reads %s", n, short(a))
	}
	s.done(change(1, 2, create("/b")))
	if a := s.one(get("/b")); !a.Is || a.Zxid != n+1 || a.Node.Stat.Created != 3 {
		s.t.Fatalf("P15.6: what is asked again is there once: %s", short(a))
	}
}

// A dead node of a group is opened anew, and learns all of the others.
func TestOpenBehindADeathInAGroup(t *testing.T) {
	d := platter.New(sectors)
	s := on(t, d, 0, 3, 1)
	l := made(t, 0, 1, opening(mostLease), change(1, 1, create("/a")))
	s.hears(1, start(1, nil), put(1, 0, l), tell(1, 1))
	s.isAt("P15.4: a Tell", 1)
	if !s.dies(1, func() { s.hears(1, put(1, 2, made(t, 2, 1, change(1, 2, create("/b"))))) }) {
		t.Fatal("no disk dies")
	}
	s.isDead("who follows")
	s = s.again()
	s.isNew("behind a death")
	s.hears(1, []order.Message{put(1, 2, made(t, 2, 1, change(1, 2, create("/b")))), tell(1, 3)}...)
	s.isAt("P15.4: all that is committed", 3)
	if a := s.one(seen(3, list("/"))); !slices.Equal(a.Kids, []string{"a", "b"}) {
		t.Errorf("P15.6: it reads %s", short(a))
	}
}
