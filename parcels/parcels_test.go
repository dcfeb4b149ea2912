package parcels_test

import (
	"fmt"
	"math"
	"slices"
	"strconv"
	"strings"
	"testing"

	"harpsichord/api"
	"harpsichord/parcels"
)

// room is how many messages a net has at most.
const room = 2000

func msg(from, to int, body string) api.Packet {
	return api.Packet{From: from, To: to, Body: body}
}

// odd are ends beside the ordinary ones.
func odd() []int {
	return []int{0, 1, 2, 6, -1, -2, 1999, 2000, math.MaxInt32, math.MinInt32, math.MaxInt, math.MinInt}
}

// nowhere are numbers of no message among so many.
func nowhere(many int) []int {
	return []int{-1, -2, -many, -many - 1, math.MinInt32, math.MinInt, many, many + 1, 2*many + 1, room, room + 1, math.MaxInt32, math.MaxInt}
}

// show is a list of messages as a line that can be read, however long it is.
func show(l []api.Packet) string {
	s := fmt.Sprintf("%d messages %v", len(l), l)
	return s[:min(len(s), 300)]
}

// row are all messages that a net has, as At tells them.
func row(n *parcels.Net) []api.Packet {
	var l []api.Packet
	for k := range n.Len() {
		p, _ := n.At(k)
		l = append(l, p)
	}
	return l
}

// places are the numbers of the messages of l to an end.
func places(l []api.Packet, to int) []int {
	var at []int
	for k, p := range l {
		if p.To == to {
			at = append(at, k)
		}
	}
	return at
}

// holds asks for just these messages, in this order, by all calls that look.
func holds(t *testing.T, what string, n *parcels.Net, want ...api.Packet) {
	t.Helper()
	if n.Len() != len(want) {
		t.Fatalf("%s: Len is %d, not %d: %s", what, n.Len(), len(want), show(row(n)))
	}
	asked := map[int]bool{}
	for k, w := range want {
		if p, is := n.At(k); !is || p != w {
			t.Fatalf("%s: At(%d) is %v, %v, not %v", what, k, p, is, w)
		}
		if !asked[w.To] {
			asked[w.To] = true
			if l := n.For(w.To); !slices.Equal(l, places(want, w.To)) {
				t.Fatalf("%s: For(%d) is %d, not %d", what, w.To, l, places(want, w.To))
			}
		}
	}
	for _, k := range nowhere(len(want)) {
		if p, is := n.At(k); (k < 0 || k >= len(want)) && (is || p != api.Packet{}) {
			t.Fatalf("%s: of %d messages: At(%d) is %v, %v", what, len(want), k, p, is)
		}
	}
}

// send asks that all of these are let in.
func send(t *testing.T, n *parcels.Net, l ...api.Packet) {
	t.Helper()
	for _, p := range l {
		if !n.Send(p) {
			t.Fatalf("P6.1: Send(%v) is false", p)
		}
	}
}

// net is one on which these messages were sent.
func net(t *testing.T, l ...api.Packet) *parcels.Net {
	t.Helper()
	n := parcels.New()
	if n == nil {
		t.Fatal("P6.1: New is nothing")
	}
	send(t, n, l...)
	return n
}

// take asks for one message.
func take(t *testing.T, n *parcels.Net, k int, want api.Packet) {
	t.Helper()
	if p, is := n.Take(k); !is || p != want {
		t.Fatalf("P6.1: Take(%d) is %v, %v, not %v", k, p, is, want)
	}
}

// apart asks whether two ends are apart, named either way round.
func apart(t *testing.T, what string, n *parcels.Net, a, b int, want bool) {
	t.Helper()
	if n.Apart(a, b) != want || n.Apart(b, a) != want {
		t.Errorf("%s: Apart(%d, %d) is %v, the other way round %v", what, a, b, n.Apart(a, b), n.Apart(b, a))
	}
}

// abc are messages of which each is another one.
func abc() []api.Packet {
	return []api.Packet{msg(1, 2, "a"), msg(1, 3, "b"), msg(2, 1, "c"), msg(3, 2, "d"), msg(2, 2, "e"), msg(1, 2, "f"), msg(3, 1, "g")}
}

// many are n messages between a few ends, of which each is another one.
func many(n int) []api.Packet {
	var l []api.Packet
	for k := range n {
		l = append(l, msg(k%3, k%5, strconv.Itoa(k)))
	}
	return l
}

func TestExamples(t *testing.T) {
	n := net(t)
	if !n.Send(msg(1, 2, "a")) || !n.Send(msg(1, 3, "b")) {
		t.Error("P6.1: Send is false")
	}
	if l := n.For(3); !slices.Equal(l, []int{1}) {
		t.Errorf("P6.1: For(3) is %d", l)
	}
	take(t, n, 0, msg(1, 2, "a"))
	if l := n.For(3); !slices.Equal(l, []int{0}) {
		t.Errorf("P6.1: For(3) behind Take(0) is %d", l)
	}
	n.Part(2, 1)
	if n.Send(msg(1, 2, "c")) {
		t.Error("P6.2: Send from 1 to 2 behind Part(2, 1) is true")
	}
	holds(t, "the examples", n, msg(1, 3, "b"))
}

func TestNew(t *testing.T) {
	n := net(t)
	holds(t, "P6.1: New", n)
	for _, a := range odd() {
		if l := n.For(a); len(l) != 0 {
			t.Errorf("P6.1: For(%d) of a new net is %d", a, l)
		}
		for _, b := range odd() {
			apart(t, "P6.1: New", n, a, b, false)
		}
	}
}

func TestNetsAreOfTheirOwn(t *testing.T) {
	a, b := net(t, abc()...), net(t)
	b.Part(1, 2)
	holds(t, "P6.1: a net beside one on which two were parted", a, abc()...)
	apart(t, "P6.2: a net beside one on which two were parted", a, 1, 2, false)
	a.Part(1, 3)
	b.Heal()
	apart(t, "P6.2: a net beside one that was healed", a, 1, 3, true)
	holds(t, "P6.1: a net beside one that has messages", b)
}

func TestSend(t *testing.T) {
	n := net(t)
	for k, p := range abc() {
		send(t, n, p)
		holds(t, "P6.1: Send", n, abc()[:k+1]...)
	}
}

func TestSendBetweenAnyEnds(t *testing.T) {
	n := net(t)
	var all []api.Packet
	for _, a := range odd() {
		for _, b := range odd() {
			all = append(all, msg(a, b, "x"))
			send(t, n, msg(a, b, "x"))
		}
	}
	holds(t, "P6.1: Send between any ends", n, all...)
}

func TestSendOfAnyBody(t *testing.T) {
	var all []api.Packet
	for _, s := range []string{"", "a", "\x00", "a\x00b", "\xff\xfe", "é€", strings.Repeat("\n", 5), strings.Repeat("long ", 1<<18)} {
		all = append(all, msg(1, 2, s))
	}
	n := net(t, all...)
	holds(t, "P6.1: Send of any body", n, all...)
	for _, p := range all {
		take(t, n, 0, p)
	}
}

// The same message sent twice is two messages.
func TestSendOfTheSameMessage(t *testing.T) {
	p := msg(1, 2, "a")
	n := net(t, p, p, p)
	holds(t, "P6.1: the same message, three times", n, p, p, p)
	take(t, n, 1, p)
	holds(t, "P6.1: one of these is taken", n, p, p)
}

// A zero message is one, too.
func TestSendOfAZeroMessage(t *testing.T) {
	n := net(t, api.Packet{}, api.Packet{})
	holds(t, "P6.1: zero messages", n, api.Packet{}, api.Packet{})
	take(t, n, 0, api.Packet{})
	if !n.Double(0) {
		t.Error("P6.1: Double of a zero message is false")
	}
	holds(t, "P6.1: zero messages", n, api.Packet{}, api.Packet{})
}

// full asks that a net has no room for one more, and that to ask for it does nothing.
func full(t *testing.T, what string, n *parcels.Net, want ...api.Packet) {
	t.Helper()
	for _, p := range []api.Packet{{}, msg(1, 2, "more"), msg(7, 8, ""), msg(5, 5, "more")} {
		if n.Send(p) {
			t.Fatalf("P6.1: %s: Send(%v) beside %d messages is true", what, p, len(want))
		}
		apart(t, what, n, p.From, p.To, false)
	}
	for _, k := range []int{0, 1, room / 2, room - 2, room - 1, room, room + 1, -1} {
		if n.Double(k) {
			t.Fatalf("P6.1: %s: Double(%d) beside %d messages is true", what, k, len(want))
		}
	}
	holds(t, what, n, want...)
}

func TestSendOfAsManyAsThereIsRoomFor(t *testing.T) {
	all := many(room)
	n := net(t, all[:room-1]...)
	holds(t, "P6.1: 1999 messages", n, all[:room-1]...)
	send(t, n, all[room-1])
	full(t, "P6.1: 2000 messages", n, all...)

	for _, k := range []int{0, room / 2, room - 1} {
		take(t, n, k, all[k])
		all = slices.Delete(all, k, k+1)
		p := msg(1, 1, "again "+strconv.Itoa(k))
		send(t, n, p)
		all = append(all, p)
		full(t, "P6.1: 2000 messages, again behind a Take", n, all...)
	}
}

func TestRoomBehindAPart(t *testing.T) {
	all := many(room - 3)
	lost := []api.Packet{msg(8, 9, "a"), msg(9, 8, "b"), msg(8, 9, "c")}
	n := net(t, append(slices.Clone(all[:1000]), lost[:2]...)...)
	send(t, n, all[1000:]...)
	send(t, n, lost[2])
	if n.Send(msg(1, 2, "x")) {
		t.Error("P6.1: message 2001 is let in")
	}
	n.Part(9, 8)
	holds(t, "P6.2: three of 2000 messages are lost", n, all...)
	for range lost {
		all = append(all, msg(8, 7, "instead"))
		send(t, n, msg(8, 7, "instead"))
	}
	full(t, "P6.1: 2000 messages, again behind a Part", n, all...)
}

func TestDoubleOfAsManyAsThereIsRoomFor(t *testing.T) {
	all := many(room - 1)
	n := net(t, all...)
	if !n.Double(5) {
		t.Fatal("P6.1: Double beside 1999 messages is false")
	}
	all = append(all, all[5])
	full(t, "P6.1: 2000 messages by a Double", n, all...)
	take(t, n, 0, all[0])
	all = all[1:]
	if !n.Double(room - 2) {
		t.Fatal("P6.1: Double behind a Take is false")
	}
	full(t, "P6.1: 2000 messages by a Double, again", n, append(slices.Clone(all), all[room-2])...)
}

func TestAtAndTakeOfEachNumber(t *testing.T) {
	all := abc()
	for k := range all {
		n := net(t, all...)
		for range 3 {
			if p, is := n.At(k); !is || p != all[k] {
				t.Errorf("P6.1: At(%d) is %v, %v", k, p, is)
			}
		}
		holds(t, "P6.1: behind At", n, all...)
		take(t, n, k, all[k])
		holds(t, "P6.1: behind Take of "+strconv.Itoa(k), n, slices.Delete(abc(), k, k+1)...)
		send(t, n, msg(4, 4, "new"))
		holds(t, "P6.1: Send behind Take", n, append(slices.Delete(abc(), k, k+1), msg(4, 4, "new"))...)
	}
}

func TestTakeOfAll(t *testing.T) {
	for _, next := range []func(left int) int{
		func(left int) int { return 0 },
		func(left int) int { return left - 1 },
		func(left int) int { return left / 2 },
	} {
		left := many(room)
		n := net(t, left...)
		for len(left) > 0 {
			k := next(len(left))
			take(t, n, k, left[k])
			left = slices.Delete(left, k, k+1)
			if len(left)%400 == 3 {
				holds(t, "P6.1: Take of all", n, left...)
			}
		}
		holds(t, "P6.1: all were taken", n)
		send(t, n, msg(1, 2, "a"))
		holds(t, "P6.1: Send behind that", n, msg(1, 2, "a"))
	}
}

func TestDoubleOfEachNumber(t *testing.T) {
	for k, p := range abc() {
		n := net(t, abc()...)
		if !n.Double(k) {
			t.Fatalf("P6.1: Double(%d) is false", k)
		}
		holds(t, "P6.1: Double", n, append(abc(), p)...)
		if !n.Double(len(abc())) {
			t.Fatalf("P6.1: Double of what was doubled is false")
		}
		holds(t, "P6.1: Double of what was doubled", n, append(abc(), p, p)...)
		take(t, n, k, p)
		holds(t, "P6.1: the first of three is taken", n, append(slices.Delete(abc(), k, k+1), p, p)...)
	}
}

func TestNumbersOfNoMessage(t *testing.T) {
	for _, all := range [][]api.Packet{nil, abc()[:1], abc(), many(1999), many(room)} {
		n := net(t, all...)
		n.Part(7, 8)
		for _, k := range nowhere(len(all)) {
			if k >= 0 && k < len(all) {
				continue
			}
			if p, is := n.At(k); is || p != (api.Packet{}) {
				t.Errorf("P6.1: of %d messages: At(%d) is %v, %v", len(all), k, p, is)
			}
			if p, is := n.Take(k); is || p != (api.Packet{}) {
				t.Errorf("P6.1: of %d messages: Take(%d) is %v, %v", len(all), k, p, is)
			}
			if n.Double(k) {
				t.Errorf("P6.1: of %d messages: Double(%d) is true", len(all), k)
			}
		}
		holds(t, "P6.1: behind calls of no message", n, all...)
		apart(t, "P6.2: behind calls of no message", n, 7, 8, true)
	}
}

func TestFor(t *testing.T) {
	n := net(t, abc()...)
	for _, c := range []struct {
		to   int
		want []int
	}{{1, []int{2, 6}}, {2, []int{0, 3, 4, 5}}, {3, []int{1}}, {0, nil}, {4, nil}, {-1, nil}, {math.MaxInt, nil}, {math.MinInt, nil}} {
		l := n.For(c.to)
		if !slices.Equal(l, c.want) {
			t.Errorf("P6.1: For(%d) is %d, not %d", c.to, l, c.want)
		}
		for _, k := range l {
			if p, is := n.At(k); !is || p.To != c.to {
				t.Errorf("P6.1: For(%d) tells %d, where %v is, %v", c.to, k, p, is)
			}
		}
	}
	holds(t, "P6.1: behind For", n, abc()...)

	all := many(room)
	n = net(t, all...)
	for to := range 6 {
		if l := n.For(to); !slices.Equal(l, places(all, to)) {
			t.Errorf("P6.1: For(%d) of 2000 messages is %d", to, l)
		}
	}
}

// For is by To alone, and of all odd ends.
func TestForOfOddEnds(t *testing.T) {
	n := net(t)
	for _, to := range odd() {
		send(t, n, msg(99, to, "x"))
	}
	for k, to := range odd() {
		if l := n.For(to); !slices.Equal(l, []int{k}) {
			t.Errorf("P6.1: For(%d) is %d, not %d", to, l, k)
		}
	}
	if l := n.For(99); len(l) != 0 {
		t.Errorf("P6.1: For of an end that only sent is %d", l)
	}
}

// without are the messages of l that are not between a and b.
func without(l []api.Packet, a, b int) []api.Packet {
	var left []api.Packet
	for _, p := range l {
		if !(p.From == a && p.To == b) && !(p.From == b && p.To == a) {
			left = append(left, p)
		}
	}
	return left
}

// some are all pairs of a few ends, of a net on which each end has a message to each, several times.
func some() ([][2]int, []api.Packet) {
	var pairs [][2]int
	var all []api.Packet
	for round := range 3 {
		for a := -1; a < 4; a++ {
			for b := -1; b < 4; b++ {
				if round == 0 {
					pairs = append(pairs, [2]int{a, b})
				}
				all = append(all, msg(a, b, strconv.Itoa(len(all))))
			}
		}
	}
	return pairs, all
}

// Each two ends, either way round, and an end and itself: what is between the two is lost, and refused, and nothing else is.
func TestPart(t *testing.T) {
	pairs, all := some()
	for _, x := range pairs {
		what := fmt.Sprintf("P6.2: Part(%d, %d)", x[0], x[1])
		n := net(t, all...)
		n.Part(x[0], x[1])
		left := without(all, x[0], x[1])
		holds(t, what, n, left...)
		for _, y := range pairs {
			is := y == x || y == [2]int{x[1], x[0]}
			apart(t, what, n, y[0], y[1], is)
			if n.Send(msg(y[0], y[1], "new")) == is {
				t.Errorf("%s: Send from %d to %d is %v", what, y[0], y[1], !is)
			}
			if !is {
				left = append(left, msg(y[0], y[1], "new"))
			}
			holds(t, what+", Send", n, left...)
		}
		n.Heal()
		holds(t, what+", Heal", n, left...)
		for _, y := range pairs {
			apart(t, what+", Heal", n, y[0], y[1], false)
		}
		send(t, n, msg(x[0], x[1], "healed"), msg(x[1], x[0], "healed"))
		holds(t, what+", Heal, Send", n, append(left, msg(x[0], x[1], "healed"), msg(x[1], x[0], "healed"))...)
	}
}

// Where the lost messages stand makes no difference.
func TestPartLosesMessagesAnywhere(t *testing.T) {
	for mask := range 1 << 8 {
		n := net(t)
		var left []api.Packet
		for k := range 8 {
			p := msg(1+k%2, 2-k%2, strconv.Itoa(k))
			if mask>>k&1 == 0 {
				p.From = 3
				left = append(left, p)
			}
			send(t, n, p)
		}
		n.Part(1, 2)
		holds(t, fmt.Sprintf("P6.2: Part of messages lost as %b", mask), n, left...)
	}
	p := msg(1, 2, "x")
	for _, l := range [][]api.Packet{{}, {p}, {p, p, p}} {
		n := net(t, l...)
		n.Part(1, 2)
		holds(t, "P6.2: Part loses all", n)
		apart(t, "P6.2: Part loses all", n, 1, 2, true)
	}
	n := net(t, slices.Repeat([]api.Packet{p}, room)...)
	n.Part(1, 2)
	holds(t, "P6.2: Part loses 2000", n)
}

func TestPartOfOddEnds(t *testing.T) {
	for _, a := range odd() {
		for _, b := range odd() {
			var all []api.Packet
			for _, c := range odd() {
				for _, d := range odd() {
					all = append(all, msg(c, d, "x"))
				}
			}
			n := net(t, all...)
			n.Part(a, b)
			if l := without(all, a, b); !slices.Equal(row(n), l) {
				t.Fatalf("P6.2: Part(%d, %d) leaves %s, not %s", a, b, show(row(n)), show(l))
			}
			for _, c := range odd() {
				for _, d := range odd() {
					apart(t, "P6.2: Part of odd ends", n, c, d, a == c && b == d || a == d && b == c)
				}
			}
		}
	}
}

// The same pair again, either way round, changes nothing, and one Heal is enough.
func TestPartTwice(t *testing.T) {
	for _, x := range [][4]int{{1, 2, 1, 2}, {1, 2, 2, 1}, {2, 2, 2, 2}, {-5, 5, 5, -5}} {
		n := net(t, abc()...)
		n.Part(x[0], x[1])
		left := without(abc(), x[0], x[1])
		holds(t, "P6.2: Part", n, left...)
		n.Part(x[2], x[3])
		holds(t, "P6.2: Part twice", n, left...)
		apart(t, "P6.2: Part twice", n, x[0], x[1], true)
		n.Heal()
		apart(t, "P6.2: Part twice, Heal", n, x[0], x[1], false)
		send(t, n, msg(x[0], x[1], "new"))
		holds(t, "P6.2: Part twice, Heal, Send", n, append(left, msg(x[0], x[1], "new"))...)
	}
}

// Many pairs are apart at once; all are healed at once.
func TestPartOfManyPairs(t *testing.T) {
	const ends = 40
	parted := func(a, b int) bool { return (a+b)%3 == 0 }
	n := net(t)
	for round := range 3 {
		var left []api.Packet
		for a := range ends {
			for b := range ends {
				p := msg(a, b, strconv.Itoa(round))
				send(t, n, p)
				if !parted(a, b) {
					left = append(left, p)
				}
			}
		}
		for a := range ends {
			for b := a; b < ends; b++ {
				if parted(a, b) {
					n.Part(b, a)
				}
			}
		}
		holds(t, "P6.2: many pairs", n, left...)
		for a := range ends {
			for b := range ends {
				apart(t, "P6.2: many pairs", n, a, b, parted(a, b))
			}
		}
		n.Heal()
		holds(t, "P6.2: many pairs, Heal", n, left...)
		for a := range ends {
			for b := range ends {
				apart(t, "P6.2: many pairs, Heal", n, a, b, false)
			}
		}
		for range left {
			n.Take(0)
		}
	}
}

func TestHeal(t *testing.T) {
	n := net(t, abc()...)
	n.Heal()
	holds(t, "P6.2: Heal where none are apart", n, abc()...)
	n.Part(1, 2)
	n.Part(3, 3)
	n.Heal()
	n.Heal()
	holds(t, "P6.2: what was lost does not come back", n, without(abc(), 1, 2)...)
	n.Part(2, 1)
	apart(t, "P6.2: Part behind Heal", n, 1, 2, true)
	apart(t, "P6.2: Part behind Heal", n, 3, 3, false)
	if n.Send(msg(1, 2, "x")) || n.Send(msg(2, 1, "x")) {
		t.Error("P6.2: Part behind Heal: Send is true")
	}
	holds(t, "P6.2: Part behind Heal", n, without(abc(), 1, 2)...)
}

// Take and Double do with what is left as before, and nobody is let in by Apart.
func TestOtherCallsWhileTwoAreApart(t *testing.T) {
	n := net(t, abc()...)
	n.Part(1, 2)
	left := without(abc(), 1, 2) // b, d, e, g
	for range 3 {
		apart(t, "P6.2: asked again", n, 1, 2, true)
		apart(t, "P6.2: asked again", n, 1, 3, false)
		apart(t, "P6.2: asked again", n, 2, 2, false)
	}
	if !n.Double(1) {
		t.Error("P6.1: Double of what is not lost is false")
	}
	take(t, n, 0, left[0])
	holds(t, "P6.2: Double and Take while two are apart", n, left[1], left[2], left[3], left[1])
	if n.Send(msg(2, 1, "x")) {
		t.Error("P6.2: Send between two that are apart is true")
	}
	apart(t, "P6.2: behind a Send that was refused", n, 1, 2, true)
	holds(t, "P6.2: behind a Send that was refused", n, left[1], left[2], left[3], left[1])
}

// dice tells numbers below n, others for each seed, and the same ones at each run.
func dice(seed int) func(n int) int {
	state := uint64(seed)*2654435761 + 1
	return func(n int) int {
		state = state*6364136223846793005 + 1442695040888963407
		return int(state>>33) % n
	}
}

// model is a net by the chapter's words: pairs lie in a list, either way round.
type model struct {
	row    []api.Packet
	parted [][2]int
}

func (m *model) apart(a, b int) bool {
	return slices.Contains(m.parted, [2]int{a, b}) || slices.Contains(m.parted, [2]int{b, a})
}

func (m *model) send(p api.Packet) bool {
	if len(m.row) == room || m.apart(p.From, p.To) {
		return false
	}
	m.row = append(m.row, p)
	return true
}

func (m *model) at(k int) (api.Packet, bool) {
	if k < 0 || k >= len(m.row) {
		return api.Packet{}, false
	}
	return m.row[k], true
}

func (m *model) take(k int) (api.Packet, bool) {
	p, is := m.at(k)
	if is {
		m.row = append(slices.Clone(m.row[:k]), m.row[k+1:]...)
	}
	return p, is
}

func (m *model) double(k int) bool {
	if _, is := m.at(k); !is || len(m.row) == room {
		return false
	}
	m.row = append(m.row, m.row[k])
	return true
}

func (m *model) part(a, b int) {
	m.parted = append(m.parted, [2]int{a, b})
	m.row = without(m.row, a, b)
}

// play makes calls as a seed says, on a net and on a model, holds all answers against each other, and tells them. Where storms are rare the net gets full.
func play(t *testing.T, seed, calls, rare int) []string {
	t.Helper()
	n, m, roll := net(t), &model{}, dice(seed)
	end := func() int { return roll(6) - 1 }
	var told []string
	for call := range calls {
		a, b, k := end(), end(), roll(n.Len()+6)-3
		p := msg(a, b, strconv.Itoa(call))
		var got, want string
		switch kind := roll(100); {
		case roll(rare) == 0 && kind < 75:
			n.Part(a, b)
			m.part(a, b)
		case roll(rare) == 0:
			n.Heal()
			m.parted = nil
		case kind < 45:
			got, want = fmt.Sprint("Send ", n.Send(p)), fmt.Sprint("Send ", m.send(p))
		case kind < 65:
			p, is := n.Take(k)
			q, was := m.take(k)
			got, want = fmt.Sprint("Take ", k, p, is), fmt.Sprint("Take ", k, q, was)
		case kind < 75:
			got, want = fmt.Sprint("Double ", k, n.Double(k)), fmt.Sprint("Double ", k, m.double(k))
		case kind < 85:
			p, is := n.At(k)
			q, was := m.at(k)
			got, want = fmt.Sprint("At ", k, p, is), fmt.Sprint("At ", k, q, was)
		case kind < 90:
			got, want = fmt.Sprint("For ", a, n.For(a)), fmt.Sprint("For ", a, places(m.row, a))
		default:
			got, want = fmt.Sprint("Apart ", a, b, n.Apart(a, b)), fmt.Sprint("Apart ", a, b, m.apart(a, b))
		}
		if got != want || n.Len() != len(m.row) {
			t.Fatalf("seed %d, call %d: %s, Len %d, not %s, %d", seed, call, got, n.Len(), want, len(m.row))
		}
		if call%97 == 0 {
			holds(t, fmt.Sprintf("seed %d, call %d", seed, call), n, m.row...)
		}
		told = append(told, got)
	}
	return told
}

func TestMixedCalls(t *testing.T) {
	for seed := range 40 {
		play(t, seed, 3000, 5+seed*5)
	}
}

func TestMixedCallsOnAFullNet(t *testing.T) {
	play(t, 1, 20000, 9000)
}

// A message is told no more often than it was sent and doubled, each as it was sent, and never behind a Part that lost it.
func TestNobodyIsToldWhatWasNotSent(t *testing.T) {
	for seed := range 40 {
		roll := dice(seed)
		n := net(t)
		doubles := seed%2 == 1
		sent := map[string]api.Packet{}
		left := map[string]int{} // how often it can be told yet
		tell := func(p api.Packet, is bool) {
			t.Helper()
			if is && (sent[p.Body] != p || left[p.Body] < 1) {
				t.Fatalf("P6.3: seed %d: %v is told, which can be told %d times yet", seed, p, left[p.Body])
			}
		}
		for call := range 4000 {
			switch kind, k := roll(20), roll(n.Len()+1); {
			case kind < 9:
				p := msg(roll(4), roll(4), "m"+strconv.Itoa(call))
				if n.Send(p) {
					sent[p.Body], left[p.Body] = p, 1
				} else if !n.Apart(p.From, p.To) {
					t.Fatalf("P6.1: seed %d: Send(%v) is false", seed, p)
				}
			case kind < 15:
				p, is := n.Take(k)
				tell(p, is)
				left[p.Body]--
			case kind < 17 && doubles:
				if p, is := n.At(k); n.Double(k) != is {
					t.Fatalf("P6.1: seed %d: Double(%d) of %d messages is %v", seed, k, n.Len(), !is)
				} else {
					left[p.Body]++
				}
			case kind < 19:
				tell(n.At(k))
			case roll(10) == 0:
				a, b := roll(4), roll(4)
				n.Part(a, b)
				for s, p := range sent {
					if p.From == a && p.To == b || p.From == b && p.To == a {
						left[s] = 0
					}
				}
			case roll(3) == 0:
				n.Heal()
			}
		}
		for range n.Len() {
			p, is := n.Take(roll(n.Len()))
			tell(p, is)
			left[p.Body]--
		}
		holds(t, "P6.1: all were taken", n)
		delete(left, "") // of Takes that found nothing
		for s, times := range left {
			if times != 0 {
				t.Fatalf("P6.2: seed %d: %v was neither told nor lost", seed, sent[s])
			}
		}
	}
}

func TestWhatIsGivenStaysAsItWas(t *testing.T) {
	body := []byte("ab")
	p := msg(1, 2, string(body))
	n := net(t, p)
	if p != msg(1, 2, "ab") {
		t.Errorf("R5: what was sent became %v", p)
	}
	p.From, p.To, p.Body = 3, 4, "other"
	clear(body)
	holds(t, "R6: behind a message that the caller wrote into", n, msg(1, 2, "ab"))
	n.Part(3, 4)
	holds(t, "R6: behind a message that the caller wrote into", n, msg(1, 2, "ab"))

	l := abc()
	n = net(t, l...)
	n.Take(0)
	n.Part(2, 2)
	n.Double(0)
	if !slices.Equal(l, abc()) {
		t.Errorf("R5: what was sent became %s", show(l))
	}
	clear(l)
	holds(t, "R6: behind a list that the caller cleared", n, append(without(abc()[1:], 2, 2), abc()[1])...)
}

func TestWhatIsToldIsTheCallers(t *testing.T) {
	n := net(t, abc()...)
	p, _ := n.At(0)
	p.From, p.To, p.Body = 8, 9, "other"
	holds(t, "R6: behind a message that was written into", n, abc()...)

	first, second := n.For(2), n.For(2)
	for k := range first {
		first[k] = -7
	}
	first = append(first, 1, 2, 3)
	if want := places(abc(), 2); !slices.Equal(second, want) {
		t.Errorf("R6: what For told is %d, not %d, behind what it told ahead was written into", second, want)
	}
	holds(t, "R6: behind a list that was written into", n, abc()...)
	kept, other := n.For(2), n.For(1)
	_ = append(kept[:1], 99)
	if !slices.Equal(other, places(abc(), 1)) || !slices.Equal(n.For(1), places(abc(), 1)) {
		t.Errorf("R6: For(1) is %d, and told %d", n.For(1), other)
	}

	kept = n.For(2)
	q, _ := n.At(1)
	n.Take(0)
	n.Double(0)
	n.Part(2, 3)
	send(t, n, msg(5, 2, "x"))
	n.For(2)
	if !slices.Equal(kept, places(abc(), 2)) || q != abc()[1] {
		t.Errorf("R6: what was told became %d, %v by later calls", kept, q)
	}
}

func TestTheSameCallsTellTheSame(t *testing.T) {
	for seed := range 8 {
		first := play(t, seed, 2000, 20)
		play(t, seed+1, 500, 5) // other nets make no difference
		if again := play(t, seed, 2000, 20); !slices.Equal(first, again) {
			t.Errorf("R7: seed %d: the same calls tell others", seed)
		}
	}
}
