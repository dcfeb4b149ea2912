package zab_test

import (
	"fmt"
	"slices"
	"testing"

	"harpsichord/api"
	"harpsichord/zab"
	"harpsichord/zstate"
)

// What is not taken yet stays, in order, till it is told.
func TestAllIsToldInOrder(t *testing.T) {
	s := leads(t, 1, 3)
	var want []zab.Answer
	s.asks(write(1, 1, opening(mostLease)), get("/"), write(1, 2, ending(1, 0)))
	want = append(want, zab.Answer{Node: api.Znode{Path: "/"}, Is: true}, zab.Answer{To: 1, Number: 2, Code: api.ErrArg})
	s.hears(0, ack(1, 1))
	want = append(want, reply(1, 1, 1, session(1)))
	s.asks(watched(1, list("/")), watched(1, get("/a")), write(1, 3, change(1, 1, create("/a"))), write(2, 4, renewal(1)), zab.Request{From: 4, Number: 4})
	want = append(want, zab.Answer{Zxid: 1, Is: true}, zab.Answer{Zxid: 1}, zab.Answer{To: 4, Number: 4, Code: api.ErrArg, Zxid: 1})
	s.hears(2, ack(1, 2))
	want = append(want, reply(1, 3, 2, paths("/a")))
	s.asks(watched(1, list("/")), write(2, 5, change(1, 2, create("/b"))))
	want = append(want, zab.Answer{Zxid: 2, Is: true, Kids: []string{"a"}})
	s.hears(2, ack(1, 4))
	want = append(want, reply(2, 4, 3, zstate.Reply{}), reply(2, 5, 4, paths("/b")))
	s.asks(write(2, 6, renewal(1)))
	s.hears(2, ask(5))
	want = append(want, timeout(2, 6, 4))
	s.asks(write(2, 7, renewal(1)))
	want = append(want, zab.Answer{To: 2, Number: 7, Code: api.ErrZabLeader, Zxid: 4})
	s.ticks(3)
	s.answers("P15.5: all, in order", want...)
	s.tells("P15.5: all, in order", event(1, api.Created, "/a"), event(1, api.Children, "/"), event(1, api.Children, "/"))
}

func TestOut(t *testing.T) {
	s := leads(t, 1, 3)
	s.sends("P15.5: nothing")
	s.asks(write(0, 0, opening(9)), write(0, 0, renewal(1)))
	l := s.Node().Log()
	want := s.toOthers(put(1, 0, l[:1]), put(1, 1, l[1:]))
	s.hears(2, ack(1, 1))
	want = append(want, s.toOthers(tell(1, 1))...)
	want = append(want, packet(t, 1, 2, put(1, 1, l[1:])))
	s.sends("P15.5: the node's Out", want...)
	s.asks(write(0, 0, renewal(1)))
	if l := s.Node().Out(); len(l) != 2 {
		t.Errorf("P15.5: the node's Out is %s", shown(l))
	}
	s.sends("P15.5: what the node told already")
}

// What is told is the caller's own: what is written into it is not seen.
func TestWhatIsToldIsTheCallersOwn(t *testing.T) {
	s := reader(t)
	s.asks(list("/a"), list("/a"), write(0, 0, change(1, 2, create("/x"), create("/y"))), write(0, 0, change(1, 2)))
	l := s.Answers()
	l[0].Kids[0], l[2].Reply.Paths[0] = "-", "-"
	if !slices.Equal(l[1].Kids, []string{"c", "z"}) || !slices.Equal(l[3].Reply.Paths, []string{"/x", "/y"}) {
		t.Errorf("R6: two answers share what is told: %s", short(l))
	}
	l[1].Kids[1], l[3].Reply.Paths[1] = "+", "+"
	clear(l)
	if a := s.one(list("/a")); !slices.Equal(a.Kids, []string{"c", "z"}) {
		t.Errorf("R6: what was told is written into, and it reads %s", short(a))
	}
	if a := s.one(write(0, 0, change(1, 2))); !slices.Equal(a.Reply.Paths, []string{"/x", "/y"}) {
		t.Errorf("R6: what was told is written into, and the same is answered %s", short(a))
	}
	if _, r, _ := s.State().Last(1); !slices.Equal(r.Paths, []string{"/x", "/y"}) {
		t.Errorf("R6: what was told is written into, and the state has %s", short(r))
	}
}

// Lists that were told are not written into later, nor are they told again if they are.
func TestToldListsStay(t *testing.T) {
	s := reader(t)
	s.reads(watched(1, get("/w")), watched(2, get("/w")), watched(1, list("/w")))
	s.done(change(1, 2, create("/w")))
	s.asks(get("/a"), get("/b"))
	answers, events := s.Answers(), s.Events()
	were, told := short(answers), short(events)
	s.reads(watched(2, get("/a")), watched(1, get("/a")))
	s.done(change(1, 3, create("/w/x"), set("/a", "new")))
	s.asks(list("/"), zab.Request{})
	if short(answers) != were || short(events) != told {
		t.Errorf("R6: what was told is %s, %s, and was %s, %s", short(answers), short(events), were, told)
	}
	clear(events)
	s.tells("P15.5: in order", event(1, api.Children, "/w"), event(1, api.Changed, "/a"), event(2, api.Changed, "/a"))
	l := s.Out()
	s.answers("P15.5: in order", s.listed("/"), zab.Answer{Code: api.ErrArg, Zxid: 6})
	if len(l) != 0 {
		t.Errorf("P15.5: a server alone sends %s", shown(l))
	}
}

// listed is the answer to who asks for a znode's children.
func (s *server) listed(path string) zab.Answer {
	x := s.State()
	names, is := x.Tree().Kids(path)
	return zab.Answer{Zxid: x.Zxid(), Kids: names, Is: is}
}

func TestMessagesAreTheCallersOwn(t *testing.T) {
	s := leads(t, 1, 3)
	s.asks(write(0, 0, opening(9)))
	l := s.Out()
	for k := range l {
		l[k] = api.Packet{}
	}
	s.asks(write(0, 0, opening(9)))
	log := s.Node().Log()
	s.sends("R6: behind what was written into", s.toOthers(put(1, 1, log[1:]))...)
}

// What is asked stays as it was, and is not kept: what is written into it behind the call is not seen.
func TestWhatIsAsked(t *testing.T) {
	s := leads(t, 1, 3)
	s.asks(write(0, 0, opening(mostLease)))
	s.hears(0, ack(1, 1))
	s.Answers()
	l := []api.Change{create("/a"), create("/b")}
	x := change(1, 1, l...)
	x.L, x.Now = l, 77
	r := write(3, 4, x)
	was := short(r)
	s.Ask(r)
	s.ticks(2)
	if short(r) != was {
		t.Errorf("R5: Ask was given %s, which is %s", was, short(r))
	}
	l[0], l[1] = create("/x"), remove("/a")
	s.hears(0, ack(1, 2))
	s.answers("R6: what was asked", reply(3, 4, 2, paths("/a", "/b")))
	for _, kind := range []int{1, 2, 3} {
		r := watched(1, zab.Request{From: 1, Number: 2, Kind: kind, Seen: 1, Path: "/", T: zstate.Txn{Kind: 1, Now: 99, L: l}})
		was := short(r)
		s.Ask(r)
		if short(r) != was || l[0] != create("/x") || l[1] != remove("/a") {
			t.Errorf("R5: Ask was given %s, which is %s", was, short(r))
		}
	}
}

// crowded tells all that a server tells, of whom 60 requests wait, and who has many watches, behind calls at others.
func crowded(t *testing.T, others int) string {
	t.Helper()
	for range others {
		s := waiting(t, 3)
		s.reads(watched(1, get("/n2")))
	}
	s := waiting(t, 60)
	for _, n := range []string{"5", "3", "2", "4", "6", "9", "8", "7"} {
		s.reads(watched(1, get("/n"+n)), watched(1, list("/n"+n)))
	}
	s.hears(2, ack(1, 10))
	s.hears(0, ask(3))
	return fmt.Sprint(s.Answers(), s.Events(), shown(s.Out()), s.picture())
}

func TestTheOrderOfAMapIsNotTold(t *testing.T) {
	want := crowded(t, 0)
	for n := range 20 {
		if is := crowded(t, n); is != want {
			t.Fatalf("R7: the same calls tell %s, not %s", is, want)
		}
	}
}
