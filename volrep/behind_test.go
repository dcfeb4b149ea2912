package volrep_test

import (
	"fmt"
	"slices"
	"testing"

	"harpsichord/api"
)

// An entry that is committed is answered, in order, once.
func TestWhatIsCommitted(t *testing.T) {
	for _, step := range []int{1, 2, 3, 12} {
		s := waiting(t, 12)
		for n := 1; n < 13; n += step {
			last := min(n+step, 13)
			s.hears(2, ack(1, last))
			s.replies("P19.3: what is committed", done(upTo(n+1, last)...)...)
			s.hasDone("P19.3: what is committed", last)
			s.hears(0, ack(1, last))
			s.hears(2, ack(1, last), ack(1, n))
			s.Nudge()
			s.replies("P19.3: what is committed is applied once")
			s.hasDone("P19.3: what is committed is applied once", last)
		}
	}
}

// Less than a quorum commits nothing.
func TestWhatIsNotCommitted(t *testing.T) {
	s := leads(t, 2, 5)
	s.asks(nth(1), lists(1, 1))
	s.hears(0, ack(2, 2))
	for range 5 {
		s.Nudge()
	}
	s.replies("P19.3: two of five have it")
	s.has("P19.3: two of five have it", 0)
	s.hears(4, ack(2, 1))
	s.replies("P19.3: three of five have the first one", done(1)...)
	s.hears(1, ack(2, 2))
	s.replies("P19.3: three of five have both", ok(lists(1, 1), names("n1")))
}

// Each call waits for its own entry, also the same one asked again, of one client or of several.
func TestTheSameCallWaitsTwice(t *testing.T) {
	s := leads(t, 1, 3)
	other := makes(7, 1, "n1")
	s.asks(nth(1), other, nth(1), other, lists(9, 2), nth(1))
	s.hears(0, ack(1, 2))
	s.replies("P19.3: two of six", ok(nth(1), inode(2)), ok(other, answer{Code: api.ErrFsExists}))
	s.hears(0, ack(1, 6))
	s.replies("P19.3: the others", ok(nth(1), inode(2)), ok(other, answer{Code: api.ErrFsExists}), ok(lists(9, 2), names("n1")), ok(nth(1), answer{Code: api.ErrArg}))
	s.has("P19.5: each is done once", 6, "n1")
}

// Who is asked by a greater view's Primary to join leads no more.
func TestWhoStopsLeading(t *testing.T) {
	for _, many := range []int{0, 1, 2, 40} {
		s := waiting(t, many)
		s.hears(2, ask(5))
		s.replies("P19.3: who leads no more", lost(upTo(2, many+1)...)...)
		s.hasDone("P19.3: who leads no more", 1)
		s.hears(2, start(5, s.Node().Log()), tell(5, many+1))
		s.replies("P19.3: nobody waits for what is committed then")
		s.hasDone("P19.3: who follows", many+1)
	}
}

// later is a log with which a later view starts, where four calls wait for entries 2 to 5.
type later struct {
	what  string
	views []int // of its entries; of those that stayed 1
	gone  []int // the entries that are not there any more
}

func laters() []later {
	return []later{
		{"all is lost", []int{1}, []int{2, 3, 4, 5}},
		{"all but one", []int{1, 1}, []int{3, 4, 5}},
		{"half of it", []int{1, 1, 1}, []int{4, 5}},
		{"the last one", []int{1, 1, 1, 1}, []int{5}},
		{"nothing", []int{1, 1, 1, 1, 1}, nil},
		{"nothing, and there is more", []int{1, 1, 1, 1, 1, 3}, nil},
		{"all have another view", []int{1, 2, 2, 3, 3}, []int{2, 3, 4, 5}},
		{"half of it has another view", []int{1, 1, 1, 2, 3, 3}, []int{4, 5}},
		{"the last one has another view", []int{1, 1, 1, 1, 2}, []int{5}},
		{"one has another view, and others are not there", []int{1, 1, 3}, []int{3, 4, 5}},
	}
}

// logOf has those entries that stayed, and others of these views.
func logOf(t *testing.T, own []api.Entry, views []int) []api.Entry {
	t.Helper()
	var l []api.Entry
	for k, view := range views {
		if view == 1 {
			l = append(l, own[k])
		} else {
			l = append(l, entries(t, k, view, lists(8, k+1))...)
		}
	}
	return l
}

// without are those of 2 to 5 that are not in a list.
func without(l []int) []int {
	return slices.DeleteFunc(upTo(2, 5), func(n int) bool { return slices.Contains(l, n) })
}

// A later view's log stands in the place of what was offered: first those are told whose entries are lost, and then, as it does not lead any more, all others.
func TestWhatTheLogHasLost(t *testing.T) {
	own := waiting(t, 4).Node().Log()
	for _, x := range laters() {
		s := waiting(t, 4)
		l := logOf(t, own, x.views)
		s.hears(2, start(5, l))
		s.replies("P19.3: "+x.what, lost(slices.Concat(x.gone, without(x.gone))...)...)
		s.hasDone("P19.3: "+x.what, 1)
		s.hears(2, tell(5, len(l)))
		s.replies("P19.3: nobody waits any more")
		if s.Applied() != len(l) {
			t.Errorf("P19.3: %s: %d of %d entries were applied", x.what, s.Applied(), len(l))
		}
	}
}

// Who leads a later view itself leads on: those wait on whose entries its log has, till these are committed.
func TestWhoLeadsALaterView(t *testing.T) {
	own := waiting(t, 4).Node().Log()
	for _, x := range laters() {
		s := waiting(t, 4)
		s.Lead(4)
		s.replies("P19.3: who leads on")
		s.Out()
		s.refuses("P19.2: who has not started", lists(7, 1), api.ErrVolFull)
		l := logOf(t, own, x.views)
		s.hears(2, join(4, 3, l))
		s.replies("P19.3: "+x.what, lost(x.gone...)...)
		s.Ask(lists(7, 1))
		s.hears(0, ack(4, 1))
		s.replies("P19.3: what was applied already")
		s.hears(0, ack(4, len(l)+1))
		var all []string
		for _, n := range without(x.gone) {
			all = append(all, fmt.Sprint("n", n))
		}
		s.replies("P19.3: "+x.what, append(done(without(x.gone)...), ok(lists(7, 1), names(append([]string{"n1"}, all...)...)))...)
		s.has("P19.3: "+x.what, len(l)+1, append([]string{"n1"}, all...)...)
	}
}

// Its own log is the best one: nobody's entry is lost, whoever joins, and however often it leads on.
func TestWhoLeadsOnWithItsOwnLog(t *testing.T) {
	s := waiting(t, 4)
	for _, view := range []int{4, 7, 40} {
		s.Lead(view)
		s.hears(0, join(view, 1, s.Node().Log()[:2]))
		s.hears(2, join(view, 0, nil))
		s.replies("P19.3: who leads on")
	}
	s.hears(0, ack(40, 3))
	s.replies("P19.3: two of them", done(2, 3)...)
	s.Lead(100)
	s.hears(2, ask(101))
	s.replies("P19.3: who leads no more", lost(4, 5)...)
}

// An entry that was made in an older view stands in the place of what was offered.
func TestWhatAnOlderViewHad(t *testing.T) {
	for many := 1; many <= 3; many++ {
		s := fresh(t, 1, 3)
		s.hears(2, ask(2))
		s.Lead(4)
		s.hears(0, join(4, 0, nil))
		s.asks(nth(1), nth(2), nth(3))
		s.hears(2, start(5, entries(t, 0, 1, []call{nth(7), nth(8), nth(9)}[:many]...)))
		s.replies("P19.3: all is lost", lost(1, 2, 3)...)
	}
}

// Many entries are lost, and more of them stand there with another view, whatever the order of a map.
func TestManyThatAreLost(t *testing.T) {
	s := waiting(t, 60)
	l := append(s.Node().Log()[:20], entries(t, 20, 2, nth(70), nth(71))...)
	s.hears(2, start(5, l))
	s.replies("P19.3: those that are lost, and then the others", lost(slices.Concat(upTo(21, 61), upTo(2, 20))...)...)
}

// Who leads anew is asked anew: what was offered in an older view is forgotten.
func TestWhoLeadsAnew(t *testing.T) {
	s := waiting(t, 3)
	s.hears(2, ask(2))
	s.replies("P19.3: who leads no more", lost(2, 3, 4)...)
	s.Lead(4)
	s.hears(0, join(4, 1, s.Node().Log()[:1]))
	s.asks(nth(4))
	s.replies("P19.3: the next view is started")
	s.hears(0, ack(4, 5))
	s.replies("P19.3: the one who waits now, whose call was done at its first entry", done(4)...)
	s.has("P19.3: all of the log", 5, "n1", "n2", "n3", "n4")
}

// Who follows applies what it is told is committed, and replies to nobody.
func TestWhoFollows(t *testing.T) {
	s := follows(t, 0, 3, 2, entries(t, 0, 1, nth(1), nth(2)))
	s.hasDone("P19.3: nothing is committed", 0)
	s.hears(2, tell(2, 1))
	s.hasDone("P19.3: one is committed", 1)
	s.hears(2, tell(2, 1), tell(2, 0))
	s.hasDone("P19.3: nothing is applied twice", 1)
	s.hears(2, put(2, 2, entries(t, 2, 2, nth(3), nth(4))))
	s.hasDone("P19.3: not committed yet", 1)
	s.hears(2, tell(2, 3))
	s.hasDone("P19.3: three are committed", 3)
	s.hears(2, tell(2, 9))
	s.hasDone("P19.3: all that is there", 4)
	s.replies("P19.3: nobody asked here")
}

// What Decode refuses is an entry all the same; nothing happens.
func TestWhatIsNoCall(t *testing.T) {
	good := body(t, nth(2))
	for _, text := range []string{"", "none", good + "x", good[:len(good)-1], string(make([]byte, mostBody))} {
		l := append(entries(t, 0, 1, nth(1)), api.Entry{View: 1, Number: 2, Body: text})
		l = append(l, entries(t, 2, 1, nth(3))...)
		s := follows(t, 0, 3, 2, l)
		s.hears(2, tell(2, 1))
		was := ofTable(s.Table())
		s.hears(2, tell(2, 2))
		s.has("P19.3: what Decode refuses is applied", 2, "n1")
		if is := ofTable(s.Table()); is != was {
			t.Errorf("P19.3: what Decode refuses: the table is %s, not %s", short(is), short(was))
		}
		s.hears(2, tell(2, 3))
		s.has("P19.3: behind what Decode refuses", 3, "n1", "n3")
		s.replies("P19.3: nobody asked here")
	}
}

// A call may wait for an entry that has the view and number in which it was offered, and other words: its answer is what these do.
func TestWhoWaitsForWhatIsNoCall(t *testing.T) {
	s := waiting(t, 4)
	l := s.Node().Log()[:2]
	l = append(l, junk(1, 3))
	l = append(l, entries(t, 3, 1, makes(5, 70, "other"))...)
	l = append(l, junk(2, 5))
	s.Lead(4)
	s.hears(2, join(4, 3, l))
	s.replies("P19.3: another view's entry", lost(5)...)
	s.hears(2, ack(4, 5))
	s.replies("P19.3: the answers of what is there", done(2)[0], ok(nth(3), answer{Code: api.ErrCallForm}), ok(nth(4), inode(4)))
	s.has("P19.3: what is there", 5, "n1", "n2", "other")
	s.asks(nth(3))
	s.hears(0, ack(4, 6))
	s.replies("P19.3: behind that", ok(nth(3), inode(5)))
}

// Whatever a primary says: a log that is shorter than what was applied, and then longer again.
func TestALogThatTakesBack(t *testing.T) {
	for many := range 5 {
		s := waiting(t, 4)
		s.hears(0, ack(1, 5))
		s.replies("P19.3: all of it", done(2, 3, 4, 5)...)
		was := s.picture()
		s.hears(2, start(2, s.Node().Log()[:many]), tell(2, many))
		s.hasDone("P19.3: what was applied stays", 5)
		s.hears(2, put(2, many, entries(t, many, 2, nth(20))), tell(2, many+1))
		s.hasDone("P19.3: what was applied stays", 5)
		s.Nudge()
		if !s.Lead(4) || s.picture() == was {
			t.Error("P19.2: nothing is taken")
		}
		s.Out()
		s.refuses("P19.2: who has not started", nth(3), api.ErrVolFull)
	}
}

// dies lets the disk die in step k of what is done; false, if there is no such step.
func (s *server) dies(k int, do func()) bool {
	s.disk.Arm(k)
	do()
	if !s.disk.Dead() {
		s.disk.Arm(0)
	}
	return s.disk.Dead()
}

// isDead asks that whatever a server is asked, and takes, it replies ErrTimeout at once, and does and sends nothing.
func (s *server) isDead(what string) {
	s.t.Helper()
	for range 3 {
		for _, c := range slices.Concat(inOrder(), refused()) {
			s.refuses("P19.3: "+what, c, api.ErrTimeout)
		}
		was := s.picture()
		for k := range s.many {
			view, _ := s.Node().Views()
			length := len(s.Node().Log())
			s.hears(k, ack(max(view, 1), length), ask(view+s.many), join(max(view, 1), 0, nil), start(view+2*s.many, nil), tell(max(view, 1), length))
		}
		s.Nudge()
		view, _ := s.Node().Views()
		if s.Lead(view+s.many) || s.picture() != was {
			s.t.Fatalf("P19.3: %s: it has %s", what, short(s.picture()))
		}
	}
	s.replies("P19.3: " + what)
	s.sends("P19.3: " + what)
}

// deaths lets a disk die in each step of something, in one at a time, as long as there is such a step.
func deaths(t *testing.T, what string, die func(k int) bool) {
	t.Helper()
	steps := 0
	for die(steps + 1) {
		steps++
	}
	if steps == 0 {
		t.Errorf("P13.1: no disk dies in %s", what)
	}
}

// The disk dies in a call's own Offer: it is told ErrTimeout, as all that wait.
func TestDyingInAnOffer(t *testing.T) {
	deaths(t, "an Offer", func(k int) bool {
		s := waiting(t, 20)
		if !s.dies(k, func() { s.Ask(nth(22)) }) {
			s.replies("P19.2: it waits")
			return false
		}
		s.replies("P19.3: the disk died", lost(upTo(2, 22)...)...)
		s.hasDone("P19.3: the disk died", 1)
		s.isDead(fmt.Sprintf("the disk died in step %d", k))
		return true
	})
	deaths(t, "an Offer alone", func(k int) bool {
		s := leads(t, 0, 1)
		s.oks(nth(1), inode(2))
		if !s.dies(k, func() { s.Ask(nth(2)) }) {
			return false
		}
		s.replies("P19.3: the disk died", lost(2)...)
		s.hasDone("P19.3: the disk died", 1)
		s.isDead(fmt.Sprintf("alone, the disk died in step %d", k))
		return true
	})
}

// The disk dies in what is taken, or led: all that wait are told ErrTimeout.
func TestDyingInATake(t *testing.T) {
	all := upTo(2, 21)
	for _, x := range []struct {
		what string
		do   func(s *server)
		told []int
	}{
		{"an Ask of a view", func(s *server) { s.hears(2, ask(5)) }, all},
		{"a Start", func(s *server) { s.hears(2, start(5, s.Node().Log())) }, all},
		{"a Lead", func(s *server) { s.Lead(4) }, all},
		{"a Join", func(s *server) { s.hears(0, join(4, 1, s.Node().Log())) }, all},
	} {
		deaths(t, x.what, func(k int) bool {
			s := waiting(t, 20)
			if x.what == "a Join" {
				s.Lead(4)
				s.Out()
			}
			if !s.dies(k, func() { x.do(s) }) {
				return false
			}
			s.replies("P19.3: the disk died in "+x.what, lost(x.told...)...)
			s.hasDone("P19.3: the disk died in "+x.what, 1)
			s.isDead("the disk died in " + x.what)
			return true
		})
	}
	deaths(t, "a Start of less", func(k int) bool {
		s := waiting(t, 20)
		if !s.dies(k, func() { s.hears(2, start(5, s.Node().Log()[:2])) }) {
			return false
		}
		l := s.Replies()
		slices.SortFunc(l, func(a, b reply) int { return a.Number - b.Number })
		if !slices.EqualFunc(l, lost(all...), alike) {
			t.Errorf("P19.3: the disk died in a Start: it replies %s", short(l))
		}
		s.isDead("the disk died in a Start of less")
		return true
	})
}

// The disk of one alone dies where it leads: nothing is committed.
func TestDyingInALead(t *testing.T) {
	deaths(t, "a Lead alone", func(k int) bool {
		s := leads(t, 0, 1)
		s.oks(nth(1), inode(2))
		s = s.again()
		if !s.dies(k, func() { s.Lead(2) }) {
			return false
		}
		s.has("P19.3: the disk died where it leads", 0)
		s.replies("P19.3: the disk died where it leads")
		s.isDead("the disk died where it leads")
		return true
	})
}

// The disk of one who follows dies.
func TestDyingOfWhoFollows(t *testing.T) {
	deaths(t, "a Put", func(k int) bool {
		s := follows(t, 0, 3, 2, entries(t, 0, 1, nth(1)))
		s.hears(2, tell(2, 1))
		if !s.dies(k, func() { s.hears(2, put(2, 1, entries(t, 1, 2, nth(2), nth(3))), tell(2, 3)) }) {
			return false
		}
		s.hasDone("P19.3: the disk of one who follows", 1)
		s.isDead("who follows")
		s = s.again()
		s.isNew("behind a death")
		s.hears(2, put(2, 1, entries(t, 1, 2, nth(2), nth(3))), tell(2, 3))
		s.hasDone("P19.3: all that is committed", 3)
		return true
	})
}

// The disk dies by somebody else: behind the next call, whatever that is, nobody waits.
func TestDyingByAnother(t *testing.T) {
	for what, do := range map[string]func(s *server){
		"a Nudge":             func(s *server) { s.Nudge() },
		"a Lead":              func(s *server) { s.Lead(4) },
		"a Lead of no view":   func(s *server) { s.Lead(0) },
		"a Take":              func(s *server) { s.hears(0, ack(1, 21)) },
		"a Take of anything":  func(s *server) { s.Take(api.Packet{}) },
		"a Take of no member": func(s *server) { s.hears(7, ask(7)) },
	} {
		s := waiting(t, 20).dead()
		do(s)
		s.replies("P19.3: behind "+what, lost(upTo(2, 21)...)...)
		s.hasDone("P19.3: behind "+what, 1)
		s.isDead(what)
	}
	for what, c := range map[string]call{"a call": nth(22), "no call": {Client: 5, Number: 6}} {
		s := waiting(t, 20).dead()
		s.Ask(c)
		s.replies("P19.2: "+what+", replied to at once, and then those that wait", append([]reply{no(c, api.ErrTimeout)}, lost(upTo(2, 21)...)...)...)
		s.isDead("an Ask")
	}
}
