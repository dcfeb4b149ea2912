package rank_test

import (
	"fmt"
	"math"
	"slices"
	"strings"
	"testing"

	"harpsichord/api"
	"harpsichord/rank"
)

// The bounds of what a view and a log may be.
const (
	mostView    = 1 << 62
	mostEntries = 150
	mostBody    = 200
)

// groups are how many members a group may have, and noGroups numbers of which there is none.
func groups() []int {
	return []int{1, 2, 3, 4, 5, 6, api.Ensemble}
}

func noGroups() []int {
	return []int{0, -1, -2, -api.Ensemble, math.MinInt, api.Ensemble + 1, api.Ensemble + 2, 257, 1<<32 + 3, mostView, math.MaxInt}
}

// views are some views, and noViews numbers that are none.
func views() []int {
	return []int{0, 1, 2, 3, 7, 100, 255, 256, math.MaxInt32, math.MaxInt32 + 1, 1<<32 + 1, 1 << 61, mostView - 8, mostView - 7, mostView - 2, mostView - 1, mostView}
}

func noViews() []int {
	return []int{-1, -2, -7, math.MinInt32, -mostView, math.MinInt, math.MinInt + 1, mostView + 1, mostView + 2, mostView + 7, math.MaxInt - 1, math.MaxInt}
}

// mark and entry are one each.
func mark(view, number int) api.Mark {
	return api.Mark{View: view, Number: number}
}

func entry(view, number int, body string) api.Entry {
	return api.Entry{View: view, Number: number, Body: body}
}

// log has entries with these Views, and Numbers from 1 on.
func log(views ...int) []api.Entry {
	var l []api.Entry
	for at, v := range views {
		l = append(l, entry(v, at+1, fmt.Sprint("body ", at)))
	}
	return l
}

// numbered has entries with these Numbers, all of view 1.
func numbered(numbers ...int) []api.Entry {
	var l []api.Entry
	for _, n := range numbers {
		l = append(l, entry(1, n, ""))
	}
	return l
}

// long has so many entries.
func long(many int) []api.Entry {
	var l []api.Entry
	for at := range many {
		l = append(l, entry(1+at/10, at+1, "x"))
	}
	return l
}

// short is anything as a line that can be read, however long it is.
func short(x any) string {
	s := strings.ToValidUTF8(fmt.Sprintf("%+v", x), "?")
	return s[:min(len(s), 1200)]
}

func right(t *testing.T, what string, l []api.Entry, want bool) {
	t.Helper()
	if is := rank.Right(l); is != want {
		t.Fatalf("P12.2: %s: Right is %v, of %d entries: %s", what, is, len(l), short(l))
	}
}

func best(t *testing.T, want int, l ...api.Mark) {
	t.Helper()
	if at := rank.Best(l); at != want {
		t.Fatalf("P12.2: Best is %d, not %d, of %s", at, want, short(l))
	}
}

func held(t *testing.T, want int, acks ...int) {
	t.Helper()
	if n := rank.Held(acks); n != want {
		t.Fatalf("P12.3: Held(%v) is %d, not %d", acks, n, want)
	}
}

// common asks how much two lists have in common, either way round.
func common(t *testing.T, what string, a, b []api.Entry, want int) {
	t.Helper()
	if n := rank.Common(a, b); n != want {
		t.Fatalf("P12.3: %s: Common is %d, not %d", what, n, want)
	}
	if n := rank.Common(b, a); n != want {
		t.Fatalf("P12.3: %s, the other way round: Common is %d, not %d", what, n, want)
	}
}

func next(t *testing.T, view, self, many, want int, is bool) {
	t.Helper()
	if v, ok := rank.Next(view, self, many); v != want || ok != is {
		t.Fatalf("P12.1: Next(%d, %d, %d) is %d, %v, not %d, %v", view, self, many, v, ok, want, is)
	}
}

func TestExamples(t *testing.T) {
	if q := rank.Quorum(5); q != 3 {
		t.Errorf("P12.1: Quorum(5) is %d", q)
	}
	if p := rank.Primary(7, 3); p != 1 {
		t.Errorf("P12.1: Primary(7, 3) is %d", p)
	}
	next(t, 7, 0, 3, 9, true)
	held(t, 5, 5, 2, 9)
	best(t, 1, mark(1, 5), mark(2, 1), mark(2, 1))
}

// Of three members two have entry 5: it is held.
func TestTwoOfThree(t *testing.T) {
	held(t, 5, 5, 5, 4)
	held(t, 5, 4, 5, 5)
	held(t, 5, 5, 0, 5)
	held(t, 4, 5, 4, 4)
}

func TestQuorum(t *testing.T) {
	for at, want := range []int{1, 2, 2, 3, 3, 4, 4} {
		if q := rank.Quorum(at + 1); q != want {
			t.Errorf("P12.1: Quorum(%d) is %d, not %d", at+1, q, want)
		}
	}
	for _, many := range noGroups() {
		if q := rank.Quorum(many); q != 0 {
			t.Errorf("P12.1: Quorum(%d) is %d", many, q)
		}
	}
}

func TestPrimary(t *testing.T) {
	for _, x := range []struct{ view, many, want int }{
		{0, 1, 0}, {1, 1, 0}, {mostView - 1, 1, 0}, {mostView, 1, 0},
		{0, 2, 0}, {1, 2, 1}, {mostView - 1, 2, 1}, {mostView, 2, 0},
		{0, 3, 0}, {1, 3, 1}, {2, 3, 2}, {3, 3, 0}, {mostView - 1, 3, 0}, {mostView, 3, 1},
		{1, 4, 1}, {4, 4, 0}, {mostView - 1, 4, 3}, {mostView, 4, 0},
		{1, 5, 1}, {5, 5, 0}, {mostView - 1, 5, 3}, {mostView, 5, 4},
		{1, 6, 1}, {6, 6, 0}, {mostView - 1, 6, 3}, {mostView, 6, 4},
		{0, 7, 0}, {1, 7, 1}, {6, 7, 6}, {7, 7, 0}, {mostView - 1, 7, 3}, {mostView, 7, 4},
	} {
		if p := rank.Primary(x.view, x.many); p != x.want {
			t.Errorf("P12.1: Primary(%d, %d) is %d, not %d", x.view, x.many, p, x.want)
		}
	}
}

func TestPrimaryOfNone(t *testing.T) {
	for _, many := range slices.Concat(groups(), noGroups()) {
		for _, view := range noViews() {
			if p := rank.Primary(view, many); p != -1 {
				t.Errorf("P12.1: Primary(%d, %d) is %d", view, many, p)
			}
		}
	}
	for _, many := range noGroups() {
		for _, view := range views() {
			if p := rank.Primary(view, many); p != -1 {
				t.Errorf("P12.1: Primary(%d, %d) is %d", view, many, p)
			}
		}
	}
}

func TestNext(t *testing.T) {
	for _, x := range []struct{ view, self, many, want int }{
		{0, 0, 1, 1}, {1, 0, 1, 2}, {mostView - 1, 0, 1, mostView},
		{0, 0, 2, 2}, {0, 1, 2, 1}, {1, 0, 2, 2}, {1, 1, 2, 3},
		{7, 0, 3, 9}, {7, 1, 3, 10}, {7, 2, 3, 8},
		{0, 0, 3, 3}, {0, 1, 3, 1}, {0, 2, 3, 2},
		{0, 0, 7, 7}, {0, 6, 7, 6}, {6, 6, 7, 13}, {6, 0, 7, 7}, {7, 6, 7, 13}, {8, 0, 7, 14},
		{1 << 61, 2, 3, 1<<61 + 3}, {1 << 61, 0, 3, 1<<61 + 1},
	} {
		next(t, x.view, x.self, x.many, x.want, true)
	}
}

// A view that self leads already is not the next one; of the one behind it, the next one is as far as it may be.
func TestNextOfAViewThatSelfLeads(t *testing.T) {
	for _, many := range groups() {
		for self := range many {
			for _, round := range []int{0, 1, 2, 1000, 1 << 40} {
				view := round*many + self
				next(t, view, self, many, view+many, true)
				if many > 1 { // else self leads the one behind it too
					next(t, view+1, self, many, view+many, true)
				}
				if view > 0 {
					next(t, view-1, self, many, view, true)
				}
			}
		}
	}
}

// 2^62 is 4 modulo 7, 1 modulo 3 and 0 modulo 2.
func TestNextNearTheGreatestView(t *testing.T) {
	for _, x := range []struct{ back, self, many, wantBack int }{
		{1, 4, 7, 0}, {2, 4, 7, 0}, {6, 4, 7, 0}, {7, 4, 7, 0}, {8, 4, 7, 7},
		{2, 3, 7, 1}, {8, 3, 7, 1}, {9, 3, 7, 8}, {6, 5, 7, -1}, {7, 5, 7, 6}, {1, 5, 7, -1},
		{1, 1, 3, 0}, {2, 1, 3, 0}, {3, 1, 3, 0}, {4, 1, 3, 3}, {1, 0, 3, -1}, {2, 0, 3, 1}, {2, 2, 3, -1}, {3, 2, 3, 2},
		{1, 0, 2, 0}, {2, 0, 2, 0}, {1, 1, 2, -1}, {2, 1, 2, 1},
		{1, 0, 1, 0}, {2, 0, 1, 1},
	} {
		want, is := mostView-x.wantBack, true
		if x.wantBack < 0 { // it would be above the greatest one
			want, is = 0, false
		}
		next(t, mostView-x.back, x.self, x.many, want, is)
	}
	for _, many := range groups() {
		for self := range many {
			next(t, mostView, self, many, 0, false)
		}
	}
}

func TestNextOfNone(t *testing.T) {
	for _, many := range groups() {
		for _, self := range []int{math.MinInt, -many - 1, -many, -2, -1, many, many + 1, 2 * many, 1 << 32, mostView, math.MaxInt} {
			for _, view := range slices.Concat(views(), noViews()) {
				next(t, view, self, many, 0, false)
			}
		}
		for self := range many {
			for _, view := range noViews() {
				next(t, view, self, many, 0, false)
			}
		}
	}
	for _, many := range noGroups() {
		for _, self := range []int{-1, 0, 1, many - 1, many} {
			for _, view := range slices.Concat(views(), noViews()) {
				next(t, view, self, many, 0, false)
			}
		}
	}
}

func TestRight(t *testing.T) {
	right(t, "none", nil, true)
	right(t, "an empty one", []api.Entry{}, true)
	right(t, "one", log(1), true)
	right(t, "three", log(1, 1, 1), true)
	right(t, "all empty bodies", numbered(1, 2, 3), true)
	right(t, "a zero entry", make([]api.Entry, 1), false)
}

func TestNumbersOfALog(t *testing.T) {
	for _, numbers := range [][]int{
		{0}, {2}, {-1}, {math.MinInt}, {math.MaxInt}, {1<<32 + 1},
		{0, 1}, {0, 1, 2}, {2, 3}, {2, 3, 4}, {-1, 0, 1},
		{1, 3}, {1, 2, 4}, {1, 3, 4}, {1, 2, 3, 5},
		{1, 1}, {1, 1, 2}, {1, 2, 2}, {1, 2, 2, 3}, {1, 2, 3, 3},
		{2, 1}, {1, 3, 2}, {3, 2, 1}, {1, 2, 1}, {1, 2, 0}, {1, 0}, {1, -2}, {1, 2, math.MinInt},
	} {
		right(t, fmt.Sprint("Numbers ", numbers), numbered(numbers...), false)
	}
	for at := range 20 {
		l := long(20)
		for _, n := range []int{at - 1, at, at + 2, -at - 1, 0, 1<<32 + at + 1} {
			l[at].Number = n
			right(t, fmt.Sprintf("Number %d at %d", n, at), l, false)
		}
	}
}

func TestViewsOfALog(t *testing.T) {
	for _, views := range [][]int{
		{1}, {2}, {mostView - 1}, {mostView},
		{1, 1}, {5, 5, 5}, {1, 2}, {1, 2, 3}, {1, 3, 7}, {1, 1, 2, 2}, {4, 4, 9, 9, 9, 10},
		{1, mostView}, {1, mostView - 1, mostView}, {mostView, mostView},
	} {
		right(t, fmt.Sprint("Views ", views), log(views...), true)
	}
	for _, views := range [][]int{
		{0}, {-1}, {math.MinInt}, {mostView + 1}, {math.MaxInt},
		{0, 1}, {0, 0}, {1, 0}, {1, -1}, {-1, 1}, {1, 2, mostView + 1}, {mostView, mostView + 1}, {mostView + 1, mostView + 1}, {mostView + 1, 1},
		{2, 1}, {1, 2, 1}, {2, 2, 1}, {1, 3, 2, 4}, {1, 3, 2, 2}, {3, 1, 2}, {mostView, mostView - 1}, {1, 5, 1, 5},
	} {
		right(t, fmt.Sprint("Views ", views), log(views...), false)
	}
}

func TestBodiesOfALog(t *testing.T) {
	three := "\u20ac" // of three bytes
	for _, body := range []string{"", "a", "\x00", "\xff", strings.Repeat("b", mostBody-1), strings.Repeat("b", mostBody), strings.Repeat("\x00", mostBody), strings.Repeat("\xff", mostBody), strings.Repeat(three, 66) + "ab"} {
		for at := range 3 {
			l := log(1, 2, 2)
			l[at].Body = body
			right(t, fmt.Sprintf("a body of %d bytes at %d", len(body), at), l, true)
		}
	}
	for _, body := range []string{strings.Repeat("b", mostBody+1), strings.Repeat("\x00", mostBody+1), strings.Repeat(three, 67), strings.Repeat("b", 1<<16), strings.Repeat("b", 1<<16+mostBody)} {
		for at := range 3 {
			l := log(1, 2, 2)
			l[at].Body = body
			right(t, fmt.Sprintf("a body of %d bytes at %d", len(body), at), l, false)
		}
	}
}

func TestLengthsOfALog(t *testing.T) {
	for many := range mostEntries + 1 {
		right(t, fmt.Sprint(many, " entries"), long(many), true)
	}
	for _, many := range []int{mostEntries + 1, mostEntries + 2, 256, 300, 1 << 16, 1<<16 + 1} {
		right(t, fmt.Sprint(many, " entries"), long(many), false)
	}
	l := long(mostEntries)
	for at := range l {
		l[at].View, l[at].Body = mostView, strings.Repeat("z", mostBody)
	}
	right(t, "the greatest log", l, true)
	l[mostEntries-1].Body += "z"
	right(t, "a body too long at last", l, false)
}

func TestMarkOf(t *testing.T) {
	for _, view := range slices.Concat(views(), noViews()) {
		for _, l := range [][]api.Entry{nil, {}, log(1), log(1, 3), log(4, 4, 9), numbered(7, 7), make([]api.Entry, 5), long(mostEntries), long(mostEntries + 1)} {
			if m := rank.MarkOf(view, l); m != mark(view, len(l)) {
				t.Errorf("P12.2: MarkOf(%d, %d entries) is %+v", view, len(l), m)
			}
		}
	}
}

func TestLess(t *testing.T) {
	rising := []api.Mark{
		mark(math.MinInt, math.MinInt), mark(math.MinInt, math.MaxInt), mark(-1, 0), mark(-1, 9),
		mark(0, -1), mark(0, 0), mark(0, 1), mark(0, mostEntries), mark(1, 0), mark(1, 1), mark(1, 2), mark(1, mostEntries),
		mark(2, 0), mark(2, 1), mark(3, 0), mark(1<<32, 0), mark(1<<32, 1<<32), mark(1<<32+1, 0),
		mark(mostView-1, mostEntries), mark(mostView, 0), mark(mostView, mostEntries), mark(math.MaxInt, math.MinInt), mark(math.MaxInt, math.MaxInt),
	}
	for i, a := range rising {
		for j, b := range rising {
			if is := rank.Less(a, b); is != (i < j) {
				t.Errorf("P12.2: Less(%+v, %+v) is %v", a, b, is)
			}
		}
	}
}

func TestBest(t *testing.T) {
	best(t, -1)
	best(t, 0, mark(0, 0))
	best(t, 0, mark(math.MinInt, math.MinInt))
	best(t, 0, mark(3, 4), mark(3, 4))
	best(t, 0, mark(0, 0), mark(0, 0), mark(0, 0))
	best(t, 0, mark(3, 4), mark(3, 3), mark(2, 9))
	best(t, 1, mark(3, 3), mark(3, 4), mark(2, 9))
	best(t, 2, mark(2, 9), mark(3, 3), mark(3, 4))
	best(t, 0, mark(3, 4), mark(1, 150), mark(3, 4))
	best(t, 1, mark(1, 150), mark(3, 4), mark(3, 4))
	best(t, 1, mark(3, 3), mark(3, 4), mark(3, 4), mark(3, 3))
	best(t, 2, mark(0, 0), mark(0, 1), mark(1, 0), mark(0, 150))
	best(t, 2, mark(-2, 0), mark(-1, -1), mark(-1, 0), mark(-1, -9))
	best(t, 1, mark(mostView-1, 150), mark(mostView, 0), mark(0, 0))
	if at := rank.Best([]api.Mark{}); at != -1 {
		t.Errorf("P12.2: Best of an empty list is %d", at)
	}
}

// The best one at each place of a list, once, and once more at each place behind it.
func TestPlacesOfTheBest(t *testing.T) {
	for at := range 9 {
		for again := at; again < 9; again++ {
			l := slices.Repeat([]api.Mark{mark(4, 6), mark(3, 8), mark(4, 5)}, 3)
			l[at], l[again] = mark(4, 7), mark(4, 7)
			best(t, at, l...)
		}
	}
}

func TestBestOfVeryMany(t *testing.T) {
	const many = 1 << 20
	var rising []api.Mark
	for at := range many {
		rising = append(rising, mark(at/8, at%8))
	}
	if at := rank.Best(rising); at != many-1 {
		t.Errorf("P12.2: Best of rising ones is %d", at)
	}
	slices.Reverse(rising)
	if at := rank.Best(rising); at != 0 {
		t.Errorf("P12.2: Best of falling ones is %d", at)
	}
}

func TestHeld(t *testing.T) {
	held(t, 7, 7)
	held(t, 3, 7, 3)
	held(t, 3, 3, 7)
	held(t, 7, 9, 7, 3)
	held(t, 3, 9, 3, 7, 1)
	held(t, 7, 9, 3, 7, 1, 8)
	held(t, 7, 9, 3, 7, 11, 1, 8)
	held(t, 7, 9, 3, 7, 2, 1, 8, 10)
	held(t, math.MaxInt, math.MaxInt)
	held(t, mostView, mostView, math.MaxInt, 1)
	held(t, math.MaxInt, math.MinInt, math.MaxInt, math.MaxInt)
}

func TestHeldOfAcksThatAreTheSame(t *testing.T) {
	for _, many := range groups() {
		for _, n := range []int{1, 2, 150, mostView, math.MaxInt} {
			held(t, n, slices.Repeat([]int{n}, many)...)
		}
		for _, n := range []int{0, -1, -150, math.MinInt} {
			held(t, 0, slices.Repeat([]int{n}, many)...)
		}
	}
}

// A number is held as soon as a quorum has it, and not before, whoever has it.
func TestHeldByJustAQuorum(t *testing.T) {
	for at, quorum := range []int{1, 2, 2, 3, 3, 4, 4} {
		many := at + 1
		for from := range many {
			for have := range many + 1 {
				acks := make([]int, many)
				for k := range have {
					acks[(from+k)%many] = 5
				}
				want := 0
				if have >= quorum {
					want = 5
				}
				held(t, want, acks...)
			}
		}
	}
}

func TestHeldOfNoneAboveNought(t *testing.T) {
	held(t, 0, 0)
	held(t, 0, -5)
	held(t, 0, 5, 0)
	held(t, 0, 5, -5)
	held(t, 0, -5, 5, -5)
	held(t, 0, 9, 0, 0)
	held(t, 0, 9, 9, 0, 0)
	held(t, 0, 9, 9, -1, -1)
	held(t, 0, math.MinInt, math.MinInt, math.MaxInt)
	held(t, 1, 1, 1, -1)
	held(t, 1, 9, -1, 1)
	held(t, 9, -1, 9, -1, 9, 9)
}

func TestHeldOfNoGroup(t *testing.T) {
	held(t, 0)
	if n := rank.Held([]int{}); n != 0 {
		t.Errorf("P12.3: Held of an empty list is %d", n)
	}
	for _, many := range []int{api.Ensemble + 1, api.Ensemble + 2, 2 * api.Ensemble, 256, 257, 1<<16 + 3} {
		if n := rank.Held(slices.Repeat([]int{5}, many)); n != 0 {
			t.Errorf("P12.3: Held of %d acks is %d", many, n)
		}
	}
}

func TestCommon(t *testing.T) {
	l := log(1, 1, 2, 4, 4)
	common(t, "none", nil, nil, 0)
	common(t, "empty ones", []api.Entry{}, nil, 0)
	common(t, "one and none", l, nil, 0)
	common(t, "the same one", l, l, 5)
	common(t, "two that are the same", l, log(1, 1, 2, 4, 4), 5)
	for many := range len(l) + 1 {
		common(t, "a beginning", l, l[:many], many)
	}
	for from := 1; from < len(l); from++ {
		common(t, "an end", l, l[from:], 0)
	}
	common(t, "zero entries", make([]api.Entry, 3), make([]api.Entry, 4), 3)
	common(t, "the same one again and again", numbered(1, 1, 1, 1), numbered(1, 1), 2)
	common(t, "more than a log has", long(mostEntries+50), long(mostEntries+90), mostEntries+50)
}

// Two lists that differ at one place, in one thing alone: what is the same behind it does not count.
func TestCommonOfWhatDiffers(t *testing.T) {
	for at := range 5 {
		for what, e := range map[string]api.Entry{
			"Number":    entry(3, 90, "x"),
			"no Number": entry(3, 0, "x"),
			"View":      entry(4, 9, "x"),
			"no View":   entry(0, 9, "x"),
			"Body":      entry(3, 9, "y"),
			"more Body": entry(3, 9, "xx"),
			"no Body":   entry(3, 9, ""),
			"a zero":    entry(3, 9, "x\x00"),
			"all":       entry(1, 1, "z"),
		} {
			a, b := log(1, 1, 2, 4, 4), log(1, 1, 2, 4, 4)
			a[at], b[at] = entry(3, 9, "x"), e
			common(t, fmt.Sprint(what, " at ", at), a, b, at)
			common(t, fmt.Sprint(what, " at ", at, ", and a beginning"), a, b[:at+1], at)
			if at < 4 {
				b[at+1].Body = "differs too"
				common(t, fmt.Sprint(what, " at ", at, ", and behind it"), a, b, at)
			}
		}
	}
}

// guard is a list that has more room than is handed in, and a copy of all that: what was handed in, and what lies behind it, has to stay.
func guard[T any](l []T, behind ...T) (given, all, copied []T) {
	all = slices.Concat(l, behind)
	return all[:len(l)], all, slices.Clone(all)
}

func TestEntriesThatAreGivenStay(t *testing.T) {
	for _, l := range [][]api.Entry{log(1, 1, 2), log(3, 2, 1), numbered(3, 1, 2), long(mostEntries), long(mostEntries + 1)} {
		one, all, copied := guard(l, entry(8, 8, "behind"))
		other, allOther, copiedOther := guard(slices.Concat(l[:2], log(9)), entry(9, 9, "behind"))
		rank.Right(one)
		rank.MarkOf(5, one)
		rank.Common(one, other)
		rank.Common(other, one)
		if !slices.Equal(all, copied) || !slices.Equal(allOther, copiedOther) {
			t.Errorf("R5: entries that were given have changed: %s", short(all))
		}
	}
}

func TestMarksThatAreGivenStay(t *testing.T) {
	for _, l := range [][]api.Mark{{}, {mark(1, 1)}, {mark(1, 5), mark(2, 1), mark(2, 1)}, {mark(3, 1), mark(2, 1), mark(1, 1), mark(4, 4)}} {
		given, all, copied := guard(l, mark(9, 9))
		rank.Best(given)
		if !slices.Equal(all, copied) {
			t.Errorf("R5: marks that were given have changed: %v, not %v", all, copied)
		}
	}
}

func TestAcksThatAreGivenStay(t *testing.T) {
	for _, l := range [][]int{{}, {4}, {5, 2, 9}, {9, 8, 7, 6}, {1, -1, 0, 7, 3}, {7, 6, 5, 4, 3, 2, 1}, {8, 7, 6, 5, 4, 3, 2, 1}} {
		given, all, copied := guard(l, 99, 0)
		rank.Held(given)
		if !slices.Equal(all, copied) {
			t.Errorf("R5: acks that were given have changed: %v, not %v", all, copied)
		}
	}
}

// What lies in memory behind what is handed in plays no part.
func TestWhatLiesBehindPlaysNoPart(t *testing.T) {
	if n := rank.Held([]int{5, 2, 9, 9, 9, 9}[:3]); n != 5 {
		t.Errorf("R7: Held is %d", n)
	}
	if at := rank.Best([]api.Mark{mark(1, 1), mark(1, 0), mark(2, 0)}[:2]); at != 0 {
		t.Errorf("R7: Best is %d", at)
	}
	if !rank.Right(log(1, 2, 0)[:2]) {
		t.Error("R7: Right is false")
	}
	if n := rank.Common(log(1, 2, 3)[:2], log(1, 2, 3)); n != 2 {
		t.Errorf("R7: Common is %d", n)
	}
}
