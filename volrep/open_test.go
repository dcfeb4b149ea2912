package volrep_test

import (
	"math"
	"slices"
	"testing"

	"harpsichord/api"
	"harpsichord/fcall"
	"harpsichord/platter"
	"harpsichord/volrep"
)

// The chapter's examples.
func TestExamples(t *testing.T) {
	s := fresh(t, 0, 1)
	if !s.Lead(1) {
		t.Fatal("example 1: Lead(1) is false")
	}
	c := makes(1, 1, "a")
	s.oks(c, inode(2))
	s.oks(c, inode(2))
	s.has("example 2", 2, "a")
}

// deadDisk is a disk that died, and otherDisk one with something else on it.
func deadDisk() *platter.Disk {
	d := platter.New(sectors)
	d.Arm(1)
	d.Sync()
	return d
}

func otherDisk() *platter.Disk {
	d := platter.New(sectors)
	for n := range sectors {
		d.Write(n, []byte("somebody else's"))
	}
	d.Sync()
	return d
}

func TestOpenRefuses(t *testing.T) {
	for _, x := range []struct {
		what       string
		d          *platter.Disk
		self, many int
		want       api.Errno
	}{
		{"a dead disk", deadDisk(), 0, 3, api.ErrPlatterDead},
		{"a dead disk, and no such member", deadDisk(), 3, 3, api.ErrPlatterDead},
		{"a disk that is too small", platter.New(sectors - 1), 0, 3, api.ErrOrderForm},
		{"a disk of no sectors", platter.New(0), 0, 1, api.ErrOrderForm},
		{"a disk with something else", otherDisk(), 0, 3, api.ErrOrderForm},
		{"member -1", platter.New(sectors), -1, 3, api.ErrOrderForm},
		{"member many", platter.New(sectors), 3, 3, api.ErrOrderForm},
		{"member 1 of one", platter.New(sectors), 1, 1, api.ErrOrderForm},
		{"the greatest member", platter.New(sectors), math.MaxInt, 3, api.ErrOrderForm},
		{"a group of none", platter.New(sectors), 0, 0, api.ErrOrderForm},
		{"a group of less", platter.New(sectors), 0, -1, api.ErrOrderForm},
		{"a group of too many", platter.New(sectors), 0, api.Ensemble + 1, api.ErrOrderForm},
	} {
		was, pending := content(x.d), x.d.Pending()
		for _, room := range []int{room, 0, -1} {
			if s, e := volrep.Open(x.d, x.self, x.many, room); e != x.want || s != nil {
				t.Errorf("P19.1: %s: Open is %v, %d, not %d", x.what, s, e, x.want)
			}
		}
		if content(x.d) != was || x.d.Pending() != pending {
			t.Errorf("R2: %s: Open wrote to the disk", x.what)
		}
	}
}

// isNew asks that a server has applied nothing, and that it has nothing to say.
func (s *server) isNew(what string) {
	s.t.Helper()
	if ofTable(s.Table()) != ofTable(fcall.New(room)) || s.Applied() != 0 || s.Node().Commit() != 0 || s.Node().Leads() {
		s.t.Fatalf("P19.1: %s: it has %s", what, short(s.picture()))
	}
	s.sends("P19.1: " + what)
	s.replies("P19.1: " + what)
}

func TestOpenOfANewDisk(t *testing.T) {
	for many := 1; many <= api.Ensemble; many++ {
		for self := range many {
			s := fresh(t, self, many)
			s.isNew("a new disk")
			if p, n := s.Node().Views(); p != 0 || n != 0 || len(s.Node().Log()) != 0 {
				t.Errorf("P19.1: the node of a new disk has %d, %d, %v", p, n, s.Node().Log())
			}
			for view := range many {
				if view > 0 && s.Lead(view) != (view == self) {
					t.Errorf("P19.1: member %d of %d, asked to lead view %d", self, many, view)
				}
			}
		}
	}
}

func TestOpenOfARoom(t *testing.T) {
	for given, want := range map[int]int{-5: 0, math.MinInt: 0, 0: 0, 1: 1, 3: 3, 1000: 1000} {
		s, e := volrep.Open(platter.New(sectors), 0, 1, given)
		if e != api.OK {
			t.Fatalf("P19.1: Open with a room of %d is %d", given, e)
		}
		if blocks, inodes := s.Table().Fs().Free(); blocks != want || inodes != api.MaxInodes-1 {
			t.Errorf("P19.1: of a room of %d there are %d blocks, %d inodes", given, blocks, inodes)
		}
	}
}

// What was applied, and who waits, does not last; the log does, and is applied where it is committed anew.
func TestOpenWhereALogLies(t *testing.T) {
	s := leads(t, 0, 1)
	for n := 1; n <= 3; n++ {
		s.oks(nth(n), inode(n+1))
	}
	log, had := s.Node().Log(), ofTable(s.Table())
	s = s.again()
	s.isNew("a log of one alone")
	if !slices.Equal(s.Node().Log(), log) {
		t.Errorf("P19.1: the log is %v, not %v", s.Node().Log(), log)
	}
	s.refuses("P19.2: who was opened anew does not lead", nth(1), api.ErrVolLeader)
	s.Nudge()
	s.isNew("behind a Nudge")
	if s.Lead(1) {
		t.Error("P19.2: it leads a view that it led already")
	}
	s.isNew("behind a Lead that is false")
	if !s.Lead(2) {
		t.Error("P19.2: it does not lead its next view")
	}
	s.hasDone("P19.3: who leads again applies all", 3)
	s.replies("P19.1: nothing waits")
	if is := ofTable(s.Table()); is != had {
		t.Errorf("P19.5: the table is %s, not %s", short(is), short(had))
	}
	s.oks(nth(3), inode(4))
}

// In a group the log is applied as far as a quorum has it, or the view's Primary tells.
func TestOpenInAGroup(t *testing.T) {
	s := waiting(t, 2)
	log := s.Node().Log()
	s = s.again()
	s.isNew("a log of which one entry was committed")
	s.Lead(4)
	s.hears(0, join(4, 1, log[:2]))
	s.has("P19.1: started, and nothing is committed", 0)
	s.hears(0, ack(4, 2))
	s.hasDone("P19.3: what a quorum has", 2)
	s.hears(2, ack(4, 3))
	s.hasDone("P19.3: all of it", 3)
	s.replies("P19.1: nobody waits for it any more")

	s = follows(t, 0, 3, 2, entries(t, 0, 1, nth(1), nth(2))).again()
	s.isNew("the log of one who follows")
	s.hears(2, tell(2, 1))
	s.hasDone("P19.3: what is told is committed", 1)
	s.hears(1, ask(4), tell(4, 2))
	s.hasDone("P19.3: what is told in a view that is not started", 1)
	s.hears(1, start(4, s.Node().Log()))
	s.hasDone("P19.3: a start commits nothing", 1)
	s.hears(1, tell(4, 2))
	s.hasDone("P19.3: all of it", 2)
	s.replies("P19.1: nobody waits")
}

func TestNodeIsTheNode(t *testing.T) {
	s := fresh(t, 1, 3)
	n := s.Node()
	s.hears(2, ask(5))
	if p, _ := n.Views(); p != 5 || s.Node() != n {
		t.Errorf("P19.1: Node is another one behind a Take: %d", p)
	}
	s = leads(t, 1, 3)
	n = s.Node()
	s.asks(nth(1))
	if len(n.Log()) != 1 || !n.Leads() || s.Node() != n {
		t.Errorf("P19.1: the Node has %v", n.Log())
	}
}

// What is done to a table that was told is not seen at the server, nor at another one that was told, nor the other way round.
func TestTableIsACopy(t *testing.T) {
	s := leads(t, 0, 1)
	s.oks(nth(1), inode(2))
	one, other := s.Table(), s.Table()
	was := ofTable(other)
	one.Apply(makes(3, 7, "x"))
	one.Apply(call{Client: 9, Number: 2, Kind: kRemove, H: root, Name: "n1"})
	if ofTable(one) == was {
		t.Fatal("P18.2: an Apply does nothing")
	}
	s.hasDone("R6: behind an Apply to what it told", 1)
	if is := ofTable(s.Table()); is != was || ofTable(other) != was {
		t.Errorf("R6: the server's table is %s, not %s", short(is), short(was))
	}
	s.oks(nth(2), inode(3))
	s.oks(writes(8, 1, handle{Id: 2, Gen: 1}, "bytes"), answer{})
	s.oks(lists(9, 3), names("n1", "n2"))
	if is := ofTable(other); is != was {
		t.Errorf("R6: what Table told is %s behind what was done, not %s", short(is), short(was))
	}
	l := s.Table()
	_, a := l.Last(9)
	a.Names[0] = "-"
	if _, a := s.Table().Last(9); !slices.Equal(a.Names, []string{"n1", "n2"}) {
		t.Errorf("R6: what was told is written into, and the last answer is %s", short(a))
	}
}

// Two servers do not touch each other.
func TestServersAreApart(t *testing.T) {
	a, b := leads(t, 0, 1), leads(t, 0, 1)
	alone := leads(t, 0, 1)
	a.oks(nth(1), inode(2))
	if b.isLike(a) || b.Applied() != 0 || len(b.Node().Log()) != 0 {
		t.Errorf("R6: what one does is at another one: %s", b.picture())
	}
	alone.oks(nth(1), inode(2))
	b.oks(makes(9, 5, "other"), inode(2))
	b.Lead(7)
	a.oks(nth(2), inode(3))
	alone.oks(nth(2), inode(3))
	if !a.isLike(alone) {
		t.Errorf("R6: it has %s, alone %s", a.picture(), alone.picture())
	}

	a, b = leads(t, 1, 3), leads(t, 1, 3)
	a.asks(nth(1))
	b.hears(0, ack(1, 0))
	b.hears(2, ask(5))
	b.replies("R6: who waits at another one")
	a.hears(0, ack(1, 1))
	a.replies("R6: who waits at the one", done(1)...)
}

func (s *server) isLike(other *server) bool {
	return s.picture() == other.picture()
}
