package zab_test

import (
	"fmt"
	"math"
	"slices"
	"testing"

	"harpsichord/api"
	"harpsichord/zab"
)

// reader is a server alone, at zxid 4: sessions 1 and 2, /a of session 1's with two children, and /b, which is session 2's own.
func reader(t *testing.T) *server {
	t.Helper()
	s := leads(t, 0, 1)
	s.done(opening(mostLease), opening(mostLease), change(1, 1, create("/a"), create("/a/z"), create("/a/c"), set("/a", "data")), change(2, 1, ephemeral("/b")))
	return s
}

func TestReads(t *testing.T) {
	s := reader(t)
	tree := s.State().Tree()
	for _, path := range []string{"/", "/a", "/a/z", "/b", "/c", "/a/zz", "", "a", "/a/", "//", "/ü"} {
		z, is := tree.Get(path)
		names, has := tree.Kids(path)
		for _, zxid := range []int{4, 3, 0, -1, math.MinInt} {
			r := seen(zxid, zab.Request{From: 9, Number: 5, Kind: 2, Path: path})
			s.Ask(r)
			s.answers("P15.2: "+short(r), zab.Answer{To: 9, Number: 5, Zxid: 4, Node: z, Is: is})
			r.Kind = 3
			s.Ask(r)
			s.answers("P15.2: "+short(r), zab.Answer{To: 9, Number: 5, Zxid: 4, Kids: names, Is: has})
		}
		for _, zxid := range []int{5, 6, most, math.MaxInt} {
			for _, kind := range []int{2, 3} {
				r := seen(zxid, zab.Request{From: -9, Number: -5, Kind: kind, Path: path})
				s.refuses("P15.2: "+short(r), r, api.ErrZabBehind)
			}
		}
	}
	if a := s.one(get("/a")); a.Node.Data != "data" || a.Node.Stat.Kids != 2 || a.Node.Stat.Created != 3 || a.Node.Next != 2 {
		t.Errorf("P15.2: /a is %s", short(a))
	}
	if a := s.one(list("/a")); !slices.Equal(a.Kids, []string{"c", "z"}) || !a.Is {
		t.Errorf("P15.2: the children of /a are %s", short(a))
	}
	if a := s.one(list("/b")); len(a.Kids) != 0 || !a.Is {
		t.Errorf("P15.2: the children of /b are %s", short(a))
	}
	if len(s.Node().Log()) != 4 {
		t.Errorf("P15.2: reads are in the log: %v", s.Node().Log())
	}
}

// Who does not lead answers reads, as far as it has applied.
func TestReadsAtAnyServer(t *testing.T) {
	log := made(t, 0, 1, opening(mostLease), change(1, 1, create("/a")), change(1, 2, create("/b")))
	s := follows(t, 0, 3, 2, log)
	s.refuses("P15.2: nothing is committed", seen(1, get("/a")), api.ErrZabBehind)
	if a := s.one(get("/a")); a.Is || a.Zxid != 0 || a.Code != api.OK {
		t.Errorf("P15.2: at zxid 0 it reads %s", short(a))
	}
	s.hears(2, tell(2, 2))
	if a := s.one(seen(2, get("/a"))); !a.Is || a.Zxid != 2 {
		t.Errorf("P15.2: at zxid 2 it reads %s", short(a))
	}
	if a := s.one(seen(2, list("/"))); !slices.Equal(a.Kids, []string{"a"}) || a.Zxid != 2 {
		t.Errorf("P15.2: at zxid 2 it reads %s", short(a))
	}
	s.refuses("P15.2: two are committed", seen(3, list("/")), api.ErrZabBehind)
	leader := leads(t, 1, 3)
	leader.asks(write(0, 0, opening(9)))
	leader.Out()
	leader.refuses("P15.2: who leads, and has nothing committed", seen(1, get("/")), api.ErrZabBehind)
	leader.reads(get("/"), list("/"))
}

func TestOtherKinds(t *testing.T) {
	for _, s := range []*server{reader(t), fresh(t, 1, 3, 1), leads(t, 1, 3)} {
		for _, kind := range []int{-1, 0, 4, 5, math.MinInt, math.MaxInt} {
			for _, r := range []zab.Request{{}, {Seen: math.MaxInt}, watched(1, get("/")), write(0, 0, opening(9)), write(0, 0, ending(1, 0))} {
				r.From, r.Number, r.Kind = 8, kind, kind
				s.refuses("P15.2: another kind", r, api.ErrArg)
			}
		}
	}
}

// touched does one change of each kind to /w, and below it: what each watch is told, in order.
func (s *server) touched(session, number int) []api.Event {
	s.t.Helper()
	s.done(change(session, number, create("/w")), change(session, number+1, set("/w", "x")), change(session, number+2, create("/w/k")), change(session, number+3, remove("/w/k")), change(session, number+4, remove("/w")))
	return s.Events()
}

func TestWatches(t *testing.T) {
	for _, x := range []struct {
		what string
		l    []zab.Request
		want []api.Event
	}{
		{"no watch", nil, nil},
		{"of a znode that is not there", []zab.Request{watched(1, get("/w"))}, []api.Event{event(1, api.Created, "/w")}},
		{"of its children", []zab.Request{watched(2, list("/w"))}, []api.Event{event(2, api.Children, "/w")}},
		{"of the root", []zab.Request{watched(2, get("/"))}, nil},
		{"of the root's children", []zab.Request{watched(2, list("/"))}, []api.Event{event(2, api.Children, "/")}},
		{"of both", []zab.Request{watched(1, get("/w")), watched(1, list("/w"))}, []api.Event{event(1, api.Created, "/w"), event(1, api.Children, "/w")}},
		{"twice the same", []zab.Request{watched(1, get("/w")), watched(1, get("/w"))}, []api.Event{event(1, api.Created, "/w")}},
		{"of two sessions", []zab.Request{watched(2, get("/w")), watched(1, get("/w"))}, []api.Event{event(1, api.Created, "/w"), event(2, api.Created, "/w")}},
		{"not asked for", []zab.Request{{Kind: 2, Path: "/w", T: renewal(1)}, {Kind: 3, Path: "/w", T: renewal(1)}}, nil},
		{"of sessions without a lease", []zab.Request{watched(0, get("/w")), watched(3, get("/w")), watched(-1, get("/w")), watched(5, list("/w")), watched(math.MaxInt, get("/w"))}, nil},
		{"on no path", []zab.Request{watched(1, get("w")), watched(1, get("/w/")), watched(1, list(""))}, nil},
		{"of who has seen it all", []zab.Request{seen(4, watched(1, get("/w")))}, []api.Event{event(1, api.Created, "/w")}},
		{"the session is not From", []zab.Request{{From: 2, Kind: 2, Path: "/w", Watch: true, T: renewal(1)}}, []api.Event{event(1, api.Created, "/w")}},
		{"whatever else is in T", []zab.Request{{Kind: 2, Path: "/w", Watch: true, T: at(-1, change(1, -1, remove("/w")))}}, []api.Event{event(1, api.Created, "/w")}},
	} {
		s := reader(t)
		s.reads(x.l...)
		s.tells("P15.2: ahead of all changes")
		if l := s.touched(1, 2); !slices.Equal(l, x.want) {
			t.Errorf("P15.2: a watch %s is told %s, not %s", x.what, short(l), short(x.want))
		}
		if l := s.touched(1, 9); len(l) != 0 {
			t.Errorf("P15.6: a watch %s is told %s behind that", x.what, short(l))
		}
	}
}

func TestNoWatchOfWhoIsBehind(t *testing.T) {
	s := reader(t)
	s.refuses("P15.2: Seen is above", seen(5, watched(1, get("/w"))), api.ErrZabBehind)
	s.refuses("P15.2: Seen is above", seen(5, watched(1, list("/w"))), api.ErrZabBehind)
	if l := s.touched(1, 2); len(l) != 0 {
		t.Errorf("R2: a watch of a read that was refused is told %s", short(l))
	}
}

// A watch of each kind at a znode that is there: what touches it, and what does not.
func TestWatchesOfAZnode(t *testing.T) {
	for _, x := range []struct {
		r    zab.Request
		do   []api.Change
		want []api.Event
	}{
		{watched(1, get("/a")), []api.Change{set("/a", "y")}, []api.Event{event(1, api.Changed, "/a")}},
		{watched(1, get("/a")), []api.Change{create("/a/x")}, nil},
		{watched(1, list("/a")), []api.Change{set("/a", "y")}, nil},
		{watched(1, list("/a")), []api.Change{create("/a/x")}, []api.Event{event(1, api.Children, "/a")}},
		{watched(1, list("/a")), []api.Change{remove("/a/c")}, []api.Event{event(1, api.Children, "/a")}},
		{watched(1, get("/a/c")), []api.Change{remove("/a/c")}, []api.Event{event(1, api.Deleted, "/a/c")}},
		{watched(1, list("/a/c")), []api.Change{remove("/a/c")}, []api.Event{event(1, api.Deleted, "/a/c")}},
		{watched(1, get("/a/c")), []api.Change{set("/a", "y"), create("/a/x"), set("/a/z", "y")}, nil},
		{watched(1, get("/a")), []api.Change{set("/a", "y"), remove("/zzz")}, nil},
	} {
		s := reader(t)
		s.reads(x.r)
		s.Ask(write(0, 0, change(2, 2, x.do...)))
		s.Answers()
		s.tells(fmt.Sprintf("P15.2: %s, %s", short(x.r), short(x.do)), x.want...)
	}
}

// There is no room for more than 500; a read is answered all the same.
func TestRoomOfWatches(t *testing.T) {
	s := reader(t)
	for n := range mostWatches {
		s.reads(watched(1+n%2, list(fmt.Sprintf("/p%d", n))))
	}
	s.reads(watched(1, list("/w")), watched(1, get("/w")), watched(1, list("/p0")))
	if l := s.touched(1, 2); len(l) != 0 {
		t.Errorf("P15.2: watch 501 is told %s", short(l))
	}
	s.done(change(1, 7, create("/p7"), create("/p7/x"), create("/p8"), create("/p8/x")))
	s.tells("P15.2: those that are there", event(2, api.Children, "/p7"), event(1, api.Children, "/p8"))
	s.reads(watched(1, list("/w")), watched(2, get("/w")))
	if l := s.touched(1, 8); !slices.Equal(l, []api.Event{event(2, api.Created, "/w"), event(1, api.Children, "/w")}) {
		t.Errorf("P15.2: where two were told, two more are told %s", short(l))
	}
}
