package order_test

import (
	"fmt"
	"slices"
	"testing"

	"harpsichord/api"
	"harpsichord/platter"
)

// scene is a call in which a disk may die, at a node.
type scene struct {
	what    string
	node    func(t *testing.T) *member
	do      func(n *member)
	between []string // what may be found as well as what was there ahead of the call, or is behind it
}

// lasting is what lasts, as a text.
func lasting(promised, normal int, log string) string {
	return fmt.Sprint(promised, " ", normal, " ", log)
}

// lasting is what lasts of a node.
func (n *member) lasting() string {
	p, q := n.Views()
	return lasting(p, q, line(n.Log()))
}

func scenes() []scene {
	return []scene{
		{"Lead of a new node", newNode(1, 3), func(n *member) { n.Lead(1) }, nil},
		{"Lead of one with a log", follower("1a 2b 3c"), func(n *member) { n.Lead(8) }, nil},
		{"Lead of who leads", leader("a", "b"), func(n *member) { n.Lead(8) }, nil},
		{"Lead of a new node alone", newNode(0, 1), func(n *member) { n.Lead(3) }, []string{lasting(3, 0, "")}},
		{"Lead of one alone", oneAlone, func(n *member) { n.Lead(9) }, []string{lasting(9, 4, "4a 4b")}},
		{"Offer", leader("a", "b"), func(n *member) { n.Offer("c") }, nil},
		{"the first Offer", leader(), func(n *member) { n.Offer(long(mostBody)) }, nil},
		{"Offer of one alone", oneAlone, func(n *member) { n.Offer("c") }, nil},
		{"the first Ask", newNode(2, 3), func(n *member) { n.hears(1, ask(4)) }, nil},
		{"an Ask", follower("1a 2b 3c"), func(n *member) { n.hears(1, ask(7)) }, nil},
		{"an Ask of who leads", leader("a", "b"), func(n *member) { n.hears(1, ask(7)) }, nil},
		{"a Join, of whom its own log is the best", asker, func(n *member) { n.hears(1, join(8, 3, lay("1a"))) }, nil},
		{"a Join whose log is longer", asker, func(n *member) { n.hears(1, join(8, 7, lay("1a 2b 3c 4d 4e"))) }, nil},
		{"a Join whose log is shorter", asker, func(n *member) { n.hears(1, join(8, 5, lay("1a 5x"))) }, nil},
		{"the first Start", newNode(2, 3), func(n *member) { n.hears(1, start(4, lay("1a 2b 3c"))) }, nil},
		{"the first Start, of nothing", newNode(2, 3), func(n *member) { n.hears(1, start(4, nil)) }, nil},
		{"a Start whose log is longer", follower("1a 2b 3c"), func(n *member) { n.hears(1, start(7, lay("1a 2b 3c 3d"+" 4"+long(mostBody)))) }, nil},
		{"a Start whose log is another one", follower("1a 2b 3c"), func(n *member) { n.hears(1, start(7, lay("1a 4x"))) }, nil},
		{"a Start of nothing", uncommitted("1a 2b 3c"), func(n *member) { n.hears(1, start(7, nil)) }, nil},
		{"a Start of what was promised", asked, func(n *member) { n.hears(1, start(7, lay("1a 2b 3c 3d"))) }, nil},
		{"a Start to who leads", leader("a", "b"), func(n *member) { n.hears(1, start(7, lay("5a 6x"))) }, nil},
		{"a Put", follower("1a 2b 3c"), func(n *member) { n.hears(1, put(4, 3, behind(3, "4d"))) }, nil},
		{"a Put of some", follower("1a 2b"), func(n *member) { n.hears(1, put(4, 1, behind(1, "1b 3c 4d"+" 4"+long(mostBody)+" 4f"))) }, nil},
		{"the first Put", follower(""), func(n *member) { n.hears(1, put(4, 0, lay("1a 2b 3c"))) }, nil},
	}
}

func newNode(self, many int) func(t *testing.T) *member {
	return func(t *testing.T) *member { return fresh(t, self, many) }
}

// follower is member 2 of 3, who took that log in view 4, and was told that one entry is committed.
func follower(log string) func(t *testing.T) *member {
	return func(t *testing.T) *member {
		n := following(t, 2, 3, 4, log)
		n.hears(1, tell(4, 1))
		return n
	}
}

// uncommitted is such a node that was not told so.
func uncommitted(log string) func(t *testing.T) *member {
	return func(t *testing.T) *member { return following(t, 2, 3, 4, log) }
}

// leader is member 2 of 3, who leads view 5, in which that was offered.
func leader(bodies ...string) func(t *testing.T) *member {
	return func(t *testing.T) *member {
		n := led(t, 5, 2, 3)
		n.offers(bodies...)
		n.hears(1, ack(5, min(1, len(bodies))))
		n.Out()
		return n
	}
}

// asker is member 2 of 3, who asks others to join view 8.
func asker(t *testing.T) *member {
	n := following(t, 2, 3, 4, "1a 2b 3c")
	n.hears(1, tell(4, 1))
	n.Lead(8)
	n.Out()
	return n
}

// asked is member 2 of 3, who joined view 7.
func asked(t *testing.T) *member {
	n := following(t, 2, 3, 4, "1a 2b 3c")
	n.hears(1, ask(7))
	n.Out()
	return n
}

func oneAlone(t *testing.T) *member {
	n := led(t, 4, 0, 1)
	n.offers("a", "b")
	return n
}

// outcomes are what may be found where the disk died in the call: of a Put all that begins as its outcome does, too.
func (s scene) outcomes(ahead, after *member) []string {
	p, q := after.Views()
	l := append([]string{ahead.lasting(), after.lasting()}, s.between...)
	was := len(ahead.Log())
	if before, _ := ahead.Views(); before != p || line(ahead.Log()) != line(after.Log()[:min(was, len(after.Log()))]) {
		return l
	}
	for n := was; n < len(after.Log()); n++ {
		l = append(l, lasting(p, q, line(after.Log()[:n])))
	}
	return l
}

// found asks that what a crash left is one of these, and what the dead node said is committed is there.
func (s scene) found(n *member, d *platter.Disk, may []string, how string) *member {
	n.t.Helper()
	found := on(n.t, d, n.self, n.many)
	if got := found.lasting(); !slices.Contains(may, got) {
		n.t.Fatalf("P13.7: %s: %s: %s is found, none of %s", s.what, how, short(got), short(may))
	}
	log := n.Log()
	said := log[:min(n.Commit(), len(log))]
	if l := found.Log(); len(l) < len(said) || !slices.Equal(l[:len(said)], said) {
		n.t.Fatalf("P13.6: %s: %s: %s was committed, %s is found", s.what, how, short(line(said)), short(line(l)))
	}
	found.has("P13.7: "+s.what+": nothing else lasts", first(found.Views()), second(found.Views()), false, 0, line(found.Log()))
	found.sends("P13.7: " + s.what + ": nothing else lasts")
	return found
}

func first(a, _ int) int  { return a }
func second(_, b int) int { return b }

// dies lets the disk die in step k of the call; false, if there is no such step.
func (s scene) dies(n *member, k int) bool {
	n.t.Helper()
	n.disk.Arm(k)
	s.do(n)
	if !n.disk.Dead() {
		n.disk.Arm(0)
		return false
	}
	if l := n.Out(); len(l) != 0 || !n.Dead() {
		n.t.Fatalf("P13.1: %s: the disk died in step %d; it sends %s, and is dead: %v", s.what, k, short(l), n.Dead())
	}
	return true
}

// Of each call each step, and each crash.
func TestEachCrash(t *testing.T) {
	for _, s := range scenes() {
		ahead, after := s.node(t), s.node(t)
		s.do(after)
		after.lasts(s.what)
		may := s.outcomes(ahead, after)
		if may[0] == may[1] {
			t.Fatalf("%s: nothing is done", s.what)
		}
		seen := map[string]bool{}
		steps := 0
		for k := 1; ; k++ {
			n := s.node(t)
			if !s.dies(n, k) {
				break
			}
			steps++
			for keep := range n.disk.Pending() + 1 {
				for tear := range api.Sector + 1 {
					found := s.found(n, n.disk.Crash(keep, tear), may, fmt.Sprintf("step %d, crash %d, %d", k, keep, tear))
					seen[found.lasting()] = true
				}
			}
		}
		if steps == 0 || !seen[may[0]] {
			t.Errorf("P13.1: %s: %d steps; found was %v", s.what, steps, short(seen))
		}
	}
}

// What a crash left dies again in the same call; behind that the call is done at last.
func TestCrashBehindCrash(t *testing.T) {
	roll := dice(3)
	for _, s := range scenes() {
		ahead, after := s.node(t), s.node(t)
		s.do(after)
		may := s.outcomes(ahead, after)
		for range 150 {
			n := s.node(t)
			for s.dies(n, 1+roll(9)) {
				d := n.disk.Crash(roll(n.disk.Pending()+2), roll(api.Sector+1))
				found := s.found(n, d, may, "one crash behind another")
				if found.lasting() != may[0] {
					break
				}
				n = found
			}
		}
	}
}

// Whatever a crash left, a later view's log lasts on it.
func TestBehindACrash(t *testing.T) {
	roll := dice(4)
	for _, s := range scenes() {
		for range 30 {
			n := s.node(t)
			s.dies(n, 1+roll(8))
			n = on(t, n.disk.Crash(roll(6), roll(api.Sector+1)), n.self, n.many)
			if n.many == 1 {
				if !n.Lead(50) || !n.Offer("x") {
					t.Fatalf("P13.7: %s: Lead(50), and an Offer", s.what)
				}
				n.lasts(s.what)
				continue
			}
			to := (n.self + 1) % n.many
			view := 3*20 + to
			n.hears(to, start(view, lay("1a 9b 20c")), put(view, 3, behind(3, "20d 60e")))
			n.has("P13.7: "+s.what, view, view, false, 0, "1a 9b 20c 20d 60e")
			n.lasts(s.what)
		}
	}
}

// Logs that have hundreds of sectors.
func TestCrashesOfGreatLogs(t *testing.T) {
	full := "1a " + many(mostEntries-1, 2)
	scenes := []scene{
		{"Lead with a full log", follower(full), func(n *member) { n.Lead(8) }, nil},
		{"a Start of a full log", follower("1a"), func(n *member) { n.hears(1, start(7, lay(full))) }, nil},
		{"a Start behind a full log", follower(full), func(n *member) { n.hears(1, start(7, lay("1a"))) }, nil},
		{"another full log", follower(full), func(n *member) { n.hears(1, start(7, lay("1a "+many(mostEntries-1, 3)))) }, nil},
		{"a Put of a full log", uncommitted(""), func(n *member) { n.hears(1, put(4, 0, lay(full))) }, nil},
		{"a Put behind a great log", follower("1a " + many(99, 2)), func(n *member) { n.hears(1, put(4, 100, behind(100, many(50, 3)))) }, nil},
	}
	roll := dice(5)
	for _, s := range scenes {
		ahead, after := s.node(t), s.node(t)
		s.do(after)
		after.lasts(s.what)
		may := s.outcomes(ahead, after)
		steps := 1
		for n := s.node(t); s.dies(n, steps); n = s.node(t) {
			steps += 40
		}
		for range 25 {
			n := s.node(t)
			for k := 1 + roll(steps); !s.dies(n, k); k = 1 + roll(k) {
				n = s.node(t)
			}
			for range 8 {
				s.found(n, n.disk.Crash(roll(n.disk.Pending()+1), roll(api.Sector+1)), may, "a great log")
			}
			s.found(n, n.disk.Crash(n.disk.Pending(), 0), may, "all that waits")
		}
	}
}
