package volrep_test

import (
	"fmt"
	"slices"
	"testing"

	"harpsichord/api"
)

// What is not taken yet stays, in order, till it is told.
func TestAllIsToldInOrder(t *testing.T) {
	s := fresh(t, 1, 3)
	none := call{Client: -4, Number: 44}
	s.asks(nth(1), none)
	want := []reply{no(nth(1), api.ErrVolLeader), no(none, api.ErrVolLeader)}
	s.Lead(1)
	s.asks(none, nth(1))
	want = append(want, no(none, api.ErrCallForm), no(nth(1), api.ErrVolFull))
	s.hears(0, join(1, 0, nil))
	s.asks(nth(1), none, nth(2), lists(8, 5))
	want = append(want, no(none, api.ErrCallForm))
	s.hears(0, ack(1, 2))
	want = append(want, done(1, 2)...)
	s.asks(nth(4), nth(5))
	s.hears(2, ack(1, 3))
	want = append(want, ok(lists(8, 5), names("n1", "n2")))
	s.hears(2, ask(5))
	want = append(want, lost(4, 5)...)
	s.asks(nth(6))
	want = append(want, no(nth(6), api.ErrVolLeader))
	s.Nudge()
	s.dead().asks(none, nth(7))
	want = append(want, no(none, api.ErrTimeout), no(nth(7), api.ErrTimeout))
	s.replies("P19.4: all, in order", want...)
}

// What is told is told once, whatever comes behind.
func TestToldOnce(t *testing.T) {
	s := leads(t, 0, 1)
	for n := 1; n <= 20; n++ {
		s.oks(nth(n), inode(n+1))
		s.refuses("P19.4: told once", call{Client: n}, api.ErrCallForm)
		s.Nudge()
		s.replies("P19.4: told already")
	}
}

func TestOut(t *testing.T) {
	s := leads(t, 1, 3)
	s.sends("P19.4: nothing")
	s.asks(nth(1), nth(2))
	l := s.Node().Log()
	want := slices.Concat(s.toOthers(put(1, 0, l[:1])), s.toOthers(put(1, 1, l[1:])))
	s.hears(2, ack(1, 1))
	want = append(want, s.toOthers(tell(1, 1))...)
	want = append(want, packet(t, 1, 2, put(1, 1, l[1:])))
	s.sends("P19.4: the node's Out", want...)
	s.asks(nth(3))
	if l := s.Node().Out(); len(l) != 2 {
		t.Errorf("P19.4: the node's Out is %s", shown(l))
	}
	s.sends("P19.4: what the node told already")
	s.asks(nth(4))
	s.dead().sends("P19.4: a dead node sends nothing")
	f := fresh(t, 0, 3)
	f.hears(1, ask(1))
	f.sends("P19.4: who joins", packet(t, 0, 1, join(1, 0, nil)))
	f.hears(1, start(4, l))
	f.sends("P19.4: who follows", packet(t, 0, 1, ack(4, 2)))
}

// What is told is the caller's own: what is written into it is not seen.
func TestWhatIsToldIsTheCallersOwn(t *testing.T) {
	s := leads(t, 0, 1)
	s.oks(nth(1), inode(2))
	s.oks(nth(2), inode(3))
	both := []string{"n1", "n2"}
	c, other := lists(9, 3), lists(8, 1)
	s.asks(c, c, other)
	l := s.Replies()
	for k := range l {
		if !slices.Equal(l[k].A.Names, both) {
			t.Fatalf("R6: two replies share what is told: %s", short(l))
		}
		l[k].A.Names[0], l[k].A.Names[1] = "-", fmt.Sprint(k)
	}
	s.asks(c, other)
	clear(l)
	s.replies("R6: what was told is written into, and the same is asked", ok(c, names(both...)), ok(other, names(both...)))
	if _, a := s.Table().Last(9); !slices.Equal(a.Names, both) {
		t.Errorf("R6: what was told is written into, and the table has %s", short(a))
	}
	s.oks(lists(9, 4), names(both...))
}

// Lists that were told are not written into later, nor do they come again if they are.
func TestToldListsStay(t *testing.T) {
	s := leads(t, 0, 1)
	s.asks(nth(1), nth(2), lists(8, 1), nth(3))
	l := s.Replies()
	was := short(l)
	s.asks(lists(8, 2), nth(4), lists(8, 3))
	if short(l) != was {
		t.Errorf("R6: what was told is %s, and was %s", short(l), was)
	}
	clear(l)
	s.replies("P19.4: in order", ok(lists(8, 2), names("n1", "n2", "n3")), done(4)[0], ok(lists(8, 3), names("n1", "n2", "n3", "n4")))
	s.asks(nth(5))
	l = append(s.Replies(), reply{Client: 1})
	s.asks(nth(6))
	s.replies("R6: behind what was appended to", done(6)...)
}

func TestMessagesAreTheCallersOwn(t *testing.T) {
	s := leads(t, 1, 3)
	s.asks(nth(1))
	clear(s.Out())
	s.asks(nth(2))
	l := s.Node().Log()
	s.sends("R6: behind what was written into", s.toOthers(put(1, 1, l[1:]))...)
	l[0], l[1] = junk(1, 1), junk(1, 2)
	s.hears(0, ack(1, 2))
	s.replies("R6: behind what was written into", done(1, 2)...)
}

// crowded tells all that a server tells, for whom 60 calls wait, behind calls at others.
func crowded(t *testing.T, others int) string {
	t.Helper()
	for n := range others {
		s := waiting(t, 3*n)
		s.hears(2, ask(5))
	}
	s := waiting(t, 60)
	s.hears(2, ack(1, 10))
	s.Lead(4)
	s.hears(0, join(4, 3, append(s.Node().Log()[:30], junk(2, 31))))
	s.hears(0, ask(6))
	return fmt.Sprint(s.Replies(), shown(s.Out()), s.picture())
}

func TestTheOrderOfAMapIsNotTold(t *testing.T) {
	want := crowded(t, 0)
	for n := range 20 {
		if is := crowded(t, n); is != want {
			t.Fatalf("R7: the same calls tell %s, not %s", is, want)
		}
	}
}
