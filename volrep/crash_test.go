package volrep_test

import (
	"fmt"
	"testing"

	"harpsichord/api"
	"harpsichord/fcall"
)

// script is what one alone is asked, one behind the other; a call and its answer.
func script() ([]call, []answer) {
	a := handle{Id: 2, Gen: 1}
	return []call{makes(1, 1, "a"), writes(1, 2, a, "bytes"), looks(2, 1, "a"), makes(1, 3, "b")}, []answer{inode(2), {}, inode(2), inode(3)}
}

// foundAlone asks that what a crash left of one alone has all that was answered OK, and perhaps what was answered ErrTimeout: asked again, all is answered as one file system answers it.
func foundAlone(s *server, oks int) {
	s.t.Helper()
	calls, answers := script()
	s.isNew("behind a crash")
	view, _ := s.Node().Views()
	if !s.Lead(view + 1) {
		s.t.Fatal("P19.2: behind a crash it does not lead")
	}
	if n := s.Applied(); n < oks || n > oks+1 || n != len(s.Node().Log()) {
		s.t.Fatalf("P19.5: behind a crash %d entries were applied, and %d calls were answered OK", n, oks)
	}
	one := fcall.New(room)
	for _, c := range calls[:s.Applied()] {
		one.Apply(c)
	}
	if is := ofTable(s.Table()); is != ofTable(one) {
		s.t.Fatalf("P19.5: behind a crash the table is %s, not %s", short(is), short(ofTable(one)))
	}
	for k := max(0, s.Applied()-1); k < len(calls); k++ {
		s.oks(calls[k], answers[k])
	}
	s.has("P19.5: all of it, once", s.Applied(), "a", "b")
	s.oks(reads(3, 1, handle{Id: 2, Gen: 1}), answer{B: "bytes"})
}

// One alone, whose disk dies at each write and sync, torn at each byte, is opened anew.
func TestEachCrashOfOneAlone(t *testing.T) {
	calls, answers := script()
	deaths(t, "one alone", func(k int) bool {
		s, told := fresh(t, 0, 1), 0
		s.disk.Arm(k)
		s.Lead(1)
		for n, c := range calls {
			r, want := s.one(c), ok(c, answers[n])
			if s.disk.Dead() {
				want = no(c, api.ErrTimeout)
			} else {
				told++
			}
			if !alike(r, want) {
				t.Fatalf("P19.3: the disk dies in step %d: %s is replied %s", k, short(c), short(r))
			}
		}
		if !s.disk.Dead() {
			return false
		}
		for keep := range s.disk.Pending() + 1 {
			for tear := range api.Sector + 1 {
				foundAlone(on(t, s.disk.Crash(keep, tear), 0, 1), told)
			}
		}
		return true
	})
}

// play lets a group do something of everything: a view, calls, a later view, the same calls again.
func (g *group) play() {
	g.t.Helper()
	lead := func(k int) {
		g.lead(k)
		g.settle()
	}
	ask := func(k int, l ...call) {
		for _, c := range l {
			g.ask(k, c)
			g.settle()
		}
	}
	calls, _ := script()
	lead(1)
	ask(1, calls[:3]...)
	g.nudge(1)
	g.settle()
	g.ask(1, calls[3])
	lead(2)
	ask(2, calls[3], lists(4, 1))
	ask(1, lists(4, 1))
	lead(1)
	ask(1, calls[3], lists(4, 1), lists(4, 2))
}

// Of three servers one dies at each write and sync, and is opened anew on what that left.
func TestEachCrashOfOneOfThree(t *testing.T) {
	for who := range 3 {
		deaths(t, fmt.Sprintf("server %d of 3", who), func(k int) bool {
			for seed := range uint64(2) {
				g := newGroup(t, 3, dice(100*uint64(k)+seed))
				g.servers[who].arm(k)
				g.play()
				if !g.servers[who].Node().Dead() {
					return false
				}
				g.again(g.heal())
				g.play()
				g.heal()
				if g.oks == 0 {
					t.Errorf("P19.3: server %d dies in step %d, and nobody replies OK", who, k)
				}
			}
			return true
		})
	}
}

// All die, one behind the other, each time in another step, and are opened anew: what was answered OK stays.
func TestManyCrashesOfAll(t *testing.T) {
	for seed := range uint64(20) {
		g := newGroup(t, 3, dice(seed))
		for n := range 8 {
			for _, s := range g.servers {
				s.arm(1 + g.roll(40))
			}
			lead := g.roll(3)
			g.lead(lead)
			g.settle()
			g.ask(lead, makes(1, 1+n, fmt.Sprint("n", n)))
			g.settle()
			g.ask(lead, lists(2, 1+n))
			g.settle()
			k := g.heal()
			g.ask(k, makes(1, 1+n, fmt.Sprint("n", n)))
			g.settle()
			if is := g.told[which{1, 1 + n}]; !same(is, inode(n+2)) {
				t.Fatalf("P19.5: call %d is answered %s", n, short(is))
			}
		}
	}
}
