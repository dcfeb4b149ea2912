package zab_test

import (
	"slices"
	"strings"
	"testing"

	"harpsichord/api"
	"harpsichord/platter"
	"harpsichord/zab"
	"harpsichord/zstate"
)

// The chapter's examples.
func TestExamples(t *testing.T) {
	s := fresh(t, 0, 1, 1)
	s.ticks(2)
	s.asks(write(4, 1, opening(9)))
	s.answers("example 1", reply(4, 1, 1, session(1)))
	s.asks(write(4, 2, change(1, 1, create("/a"))))
	s.answers("example 2", reply(4, 2, 2, paths("/a")))
	if a := s.one(get("/a")); a.Code != api.OK || !a.Is || a.Node.Path != "/a" {
		t.Errorf("example 2: it reads %s", short(a))
	}
}

// deadDisk is a disk that died, and otherDisk one with something else on it.
func deadDisk() *platter.Disk {
	d := platter.New(sectors)
	d.Arm(1)
	d.Sync()
	return d
}

func otherDisk() *platter.Disk {
	d := platter.New(sectors)
	for n := range sectors {
		d.Write(n, []byte("somebody else's"))
	}
	d.Sync()
	return d
}

func TestOpenRefuses(t *testing.T) {
	for _, x := range []struct {
		what             string
		d                *platter.Disk
		self, many, span int
		want             api.Errno
	}{
		{"a dead disk", deadDisk(), 0, 3, 1, api.ErrPlatterDead},
		{"a dead disk, and no such member", deadDisk(), 3, 3, 1, api.ErrPlatterDead},
		{"a dead disk, and no such span", deadDisk(), 0, 3, 0, api.ErrPlatterDead},
		{"a disk that is too small", platter.New(sectors - 1), 0, 3, 1, api.ErrOrderForm},
		{"a disk that is too small, and no such span", platter.New(sectors - 1), 0, 3, 1001, api.ErrOrderForm},
		{"a disk with something else", otherDisk(), 0, 3, 1, api.ErrOrderForm},
		{"a disk with something else, and no such span", otherDisk(), 0, 3, 0, api.ErrOrderForm},
		{"member -1", platter.New(sectors), -1, 3, 1, api.ErrOrderForm},
		{"member many", platter.New(sectors), 3, 3, 1, api.ErrOrderForm},
		{"member many, and no such span", platter.New(sectors), 3, 3, 0, api.ErrOrderForm},
		{"member 1 of one", platter.New(sectors), 1, 1, 1, api.ErrOrderForm},
		{"a group of none", platter.New(sectors), 0, 0, 1, api.ErrOrderForm},
		{"a group of less", platter.New(sectors), 0, -1, 1, api.ErrOrderForm},
		{"a group of too many", platter.New(sectors), 0, api.Ensemble + 1, 1, api.ErrOrderForm},
		{"a group of too many, and no such span", platter.New(sectors), 0, api.Ensemble + 1, 0, api.ErrOrderForm},
		{"a span of 0", platter.New(sectors), 0, 3, 0, api.ErrArg},
		{"a span of -1", platter.New(sectors), 0, 1, -1, api.ErrArg},
		{"a span of 1001", platter.New(sectors), 2, 3, mostSpan + 1, api.ErrArg},
	} {
		was, waiting := content(x.d), x.d.Pending()
		if s, e := zab.Open(x.d, x.self, x.many, x.span); e != x.want || s != nil {
			t.Errorf("P15.1: %s: Open is %v, %d, not %d", x.what, s, e, x.want)
		}
		if content(x.d) != was || x.d.Pending() != waiting {
			t.Errorf("R2: %s: Open wrote to the disk", x.what)
		}
	}
}

// isNew asks that a server has applied nothing, that its clock is 0, and that it has nothing to say.
func (s *server) isNew(what string) {
	s.t.Helper()
	if l := s.State().Pack(); !slices.Equal(l, zstate.New().Pack()) || s.Now() != 0 || s.Node().Commit() != 0 || s.Node().Leads() {
		s.t.Fatalf("P15.1: %s: it has %s", what, short(s.picture()))
	}
	s.sends("P15.1: " + what)
	s.answers("P15.1: " + what)
	s.tells("P15.1: " + what)
}

func TestOpenOfANewDisk(t *testing.T) {
	for many := 1; many <= api.Ensemble; many++ {
		for _, self := range []int{0, many - 1} {
			for _, span := range []int{1, mostSpan} {
				s := fresh(t, self, many, span)
				s.isNew("a new disk")
				if p, n := s.Node().Views(); p != 0 || n != 0 || len(s.Node().Log()) != 0 {
					t.Errorf("P15.1: the node of a new disk has %d, %d, %v", p, n, s.Node().Log())
				}
				s.ticks(span*(self+2) - 1)
				s.sends("P15.1: ahead of the timer's Limit")
				if s.Node().Leads() {
					t.Errorf("P15.1: member %d of %d, span %d, leads ahead of its timer's Limit", self, many, span)
				}
				s.Tick()
				if !s.Node().Leads() {
					t.Errorf("P15.1: member %d of %d, span %d, does not lead at its timer's Limit", self, many, span)
				}
			}
		}
	}
}

// What was applied, the clock, watches, and the requests that wait do not last; the log does.
func TestOpenWhereALogLies(t *testing.T) {
	s := leads(t, 0, 1)
	s.done(opening(9), change(1, 1, create("/a")))
	log := s.Node().Log()
	s = s.again()
	s.isNew("a log of one alone")
	if !slices.Equal(s.Node().Log(), log) {
		t.Errorf("P15.1: the log is %v, not %v", s.Node().Log(), log)
	}
	s.refuses("P15.2: what is not applied yet is not there", seen(1, get("/a")), api.ErrZabBehind)
	if a := s.one(get("/a")); a.Code != api.OK || a.Is || a.Zxid != 0 {
		t.Errorf("P15.1: it reads %s, and nothing is applied", short(a))
	}
	s.ticks(2)
	s.isAt("P15.4: who leads again applies all", 2)
	s.answers("P15.1: nothing waits")
	if a := s.one(get("/a")); !a.Is {
		t.Errorf("P15.4: it reads %s, and all is applied", short(a))
	}
}

func TestOpenForgetsWhatWaits(t *testing.T) {
	s := leads(t, 1, 3)
	s.asks(write(1, 1, opening(9)), write(2, 2, opening(9)))
	s.ticks(1)
	s = s.again()
	s.isNew("a log of which nothing is committed")
	s.ticks(3)
	s.hears(0, join(4, 1, s.Node().Log()))
	s.hears(0, ack(4, 2))
	s.isAt("P15.4: the log is applied in the next view", 2)
	s.answers("P15.1: nobody waits for it any more")
}

func TestOpenForgetsWatches(t *testing.T) {
	s := leads(t, 0, 1)
	s.done(opening(mostLease))
	s.reads(watched(1, get("/a")), watched(1, list("/")))
	s = s.again()
	s.ticks(2)
	s.done(change(1, 1, create("/a")))
	s.tells("P15.1: nobody watches")
}

func TestNodeIsTheNode(t *testing.T) {
	s := fresh(t, 1, 3, 1)
	n := s.Node()
	s.hears(2, ask(5))
	if p, _ := n.Views(); p != 5 || s.Node() != n {
		t.Errorf("P15.1: Node is another one behind a Take: %d", p)
	}
	s = leads(t, 1, 3)
	n = s.Node()
	s.asks(write(0, 0, opening(9)))
	if len(n.Log()) != 1 || !n.Leads() {
		t.Errorf("P15.1: the Node has %v", n.Log())
	}
}

func TestStateIsACopy(t *testing.T) {
	s := leads(t, 0, 1)
	s.done(opening(9))
	one, other := s.State(), s.State()
	was := strings.Join(other.Pack(), "|")
	one.Apply(2, change(1, 1, create("/x")))
	one.Apply(3, closing(1))
	s.isAt("R6: behind an Apply to what it told", 1)
	if x := s.State(); len(x.Tree().All()) != 1 || len(x.Leases().All()) != 1 || strings.Join(x.Pack(), "|") != was {
		t.Errorf("R6: the server's state is %s", short(x.Pack()))
	}
	if a := s.one(get("/x")); a.Is || a.Zxid != 1 {
		t.Errorf("R6: it reads %s", short(a))
	}
	s.done(change(1, 1, create("/y")))
	if strings.Join(other.Pack(), "|") != was {
		t.Errorf("R6: what State told is %s behind a change", short(other.Pack()))
	}
	s.isAt("P15.1: State", 2)
}

// Two servers do not touch each other.
func TestServersAreApart(t *testing.T) {
	a, b, both := leads(t, 0, 1), leads(t, 0, 1), leads(t, 0, 1)
	a.done(opening(9))
	if b.zxid() != 0 || len(b.Node().Log()) != 0 {
		t.Errorf("R6: what one does is at another one: %s", b.picture())
	}
	both.done(opening(9))
	b.done(opening(100))
	a.reads(watched(1, list("/")))
	b.done(change(1, 1, create("/b")))
	b.ticks(5)
	b.tells("R6: a watch at another one")
	both.done(change(1, 1, create("/a")))
	a.done(change(1, 1, create("/a")))
	a.tells("R6: a watch at the one", event(1, api.Children, "/"))
	if a.picture() != both.picture() {
		t.Errorf("R6: it has %s, alone %s", a.picture(), both.picture())
	}
}
