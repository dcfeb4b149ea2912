package rank_test

import (
	"fmt"
	"math"
	"slices"
	"strings"
	"testing"

	"harpsichord/api"
	"harpsichord/rank"
)

// dice tells numbers below n, always the same ones for a seed.
func dice(seed uint64) func(n int) int {
	x := seed
	return func(n int) int {
		x = x*6364136223846793005 + 1442695040888963407
		return int(x>>33) % n
	}
}

// pick is one of a list.
func pick[T any](roll func(int) int, l ...T) T {
	return l[roll(len(l))]
}

func within(n, from, to int) bool {
	return from <= n && n <= to
}

// leads tells by the chapter's words whether self leads a view.
func leads(view, self, many int) bool {
	return within(self, 0, many-1) && view%many == self
}

// following tells by the chapter's words what Next is.
func following(view, self, many int) (int, bool) {
	if !within(view, 0, mostView) || !within(many, 1, api.Ensemble) || !within(self, 0, many-1) {
		return 0, false
	}
	for v := view + 1; v <= mostView; v++ {
		if leads(v, self, many) {
			return v, true
		}
	}
	return 0, false
}

// isLog tells by the chapter's words, one behind the other, whether entries are a log.
func isLog(l []api.Entry) bool {
	for at, e := range l {
		if e.Number != 1+at {
			return false
		}
	}
	for at, e := range l {
		if e.View < 1 || e.View > mostView || at > 0 && e.View < l[at-1].View {
			return false
		}
	}
	for _, e := range l {
		if len(e.Body) > mostBody {
			return false
		}
	}
	return len(l) <= mostEntries
}

func isBefore(a, b api.Mark) bool {
	return a.View < b.View || a.View == b.View && a.Number < b.Number
}

// farthest tells by the chapter's words the place of the best mark.
func farthest(l []api.Mark) int {
	return slices.IndexFunc(l, func(m api.Mark) bool {
		return !slices.ContainsFunc(l, func(other api.Mark) bool { return isBefore(m, other) })
	})
}

// has is how many of acks a number is not above.
func has(acks []int, n int) int {
	count := 0
	for _, a := range acks {
		if a >= n {
			count++
		}
	}
	return count
}

// majority is how many members are more than half.
func majority(many int) int {
	for q := 0; ; q++ {
		if q > many-q {
			return q
		}
	}
}

// ofQuorum tells by the chapter's words what is held: the greatest of such numbers is one of the acks.
func ofQuorum(acks []int) int {
	most := 0
	for _, a := range acks {
		if within(len(acks), 1, api.Ensemble) && has(acks, a) >= majority(len(acks)) {
			most = max(most, a)
		}
	}
	return most
}

// front tells by the chapter's words how much two lists have in common.
func front(a, b []api.Entry) int {
	for n := min(len(a), len(b)); ; n-- {
		if slices.Equal(a[:n], b[:n]) {
			return n
		}
	}
}

// fillings are all lists of so many of some numbers.
func fillings(many int, some []int) [][]int {
	all := [][]int{nil}
	for range many {
		var longer [][]int
		for _, l := range all {
			for _, n := range some {
				longer = append(longer, append(slices.Clone(l), n))
			}
		}
		all = longer
	}
	return all
}

// subsets are all sets of members of a group.
func subsets(many int) [][]int {
	var all [][]int
	for bits := range 1 << many {
		var set []int
		for m := range many {
			if bits>>m&1 == 1 {
				set = append(set, m)
			}
		}
		all = append(all, set)
	}
	return all
}

// quorums are all sets of just Quorum members of a group.
func quorums(many int) [][]int {
	return slices.DeleteFunc(subsets(many), func(set []int) bool { return len(set) != rank.Quorum(many) })
}

func TestOfManyGroups(t *testing.T) {
	for many := -3; many <= api.Ensemble+3; many++ {
		want := 0
		if within(many, 1, api.Ensemble) {
			want = majority(many)
		}
		if q := rank.Quorum(many); q != want {
			t.Errorf("P12.1: Quorum(%d) is %d, not %d", many, q, want)
		}
	}
}

// Of all views to some hundred, and all that are near to the greatest one.
func TestOfManyViews(t *testing.T) {
	for many := -2; many <= api.Ensemble+2; many++ {
		for at := -3; at <= 200; at++ {
			for _, view := range []int{at, mostView + 3 - at} {
				want := -1
				if within(many, 1, api.Ensemble) && within(view, 0, mostView) {
					want = view % many
				}
				if p := rank.Primary(view, many); p != want {
					t.Fatalf("P12.1: Primary(%d, %d) is %d, not %d", view, many, p, want)
				}
				for self := -2; self <= many+2; self++ {
					v, is := following(view, self, many)
					next(t, view, self, many, v, is)
				}
			}
		}
	}
}

// The next view is led by self, and none between is.
func TestNextOfManyViews(t *testing.T) {
	roll := dice(1)
	for range 20000 {
		view := roll(1<<31)<<31 + roll(1<<31)
		many := 1 + roll(api.Ensemble)
		self := roll(many)
		v, is := rank.Next(view, self, many)
		if !is || v <= view || v > view+many || rank.Primary(v, many) != self {
			t.Fatalf("P12.1: Next(%d, %d, %d) is %d, %v", view, self, many, v, is)
		}
	}
}

// anyEntry is a right one behind a view and a number most often.
func anyEntry(roll func(int) int, view, number int) api.Entry {
	e := entry(view+pick(roll, 0, 0, 0, 1, 2, 100), number+1, strings.Repeat("b", roll(mostBody+1)))
	switch roll(600) {
	case 0:
		e.Number = pick(roll, number-1, number, number+2, 0, 1, 2, -1)
	case 1:
		e.View = pick(roll, view-1, 0, -1, mostView, mostView+1, math.MaxInt)
	case 2:
		e.Body = strings.Repeat("b", mostBody-1+roll(4))
	}
	return e
}

// anyLog is right about as often as not.
func anyLog(roll func(int) int) []api.Entry {
	var l []api.Entry
	view := 1
	for at := range roll(mostEntries + 6) {
		e := anyEntry(roll, view, at)
		l = append(l, e)
		view = e.View
	}
	return l
}

func TestOfManyLogs(t *testing.T) {
	roll := dice(2)
	logs := 0
	for range 6000 {
		l := anyLog(roll)
		want := isLog(l)
		right(t, "of many", l, want)
		if want {
			logs++
		}
	}
	if !within(logs, 2000, 5500) {
		t.Errorf("%d of 6000 were logs", logs)
	}
}

// Of all lists of up to 3 entries with these Numbers and Views.
func TestOfAllSmallLists(t *testing.T) {
	for many := range 4 {
		for _, numbers := range fillings(many, []int{0, 1, 2, 3, 4}) {
			for _, views := range fillings(many, []int{0, 1, 2, mostView, mostView + 1}) {
				l := numbered(numbers...)
				for at := range l {
					l[at].View = views[at]
				}
				right(t, "of small ones", l, isLog(l))
			}
		}
	}
}

// What a log begins with is a log as well.
func TestBeginningsOfALog(t *testing.T) {
	for seed := range uint64(60) {
		l := anyLog(dice(200 + seed))
		for many := range len(l) {
			if rank.Right(l) && !rank.Right(l[:many]) {
				t.Fatalf("P12.2: seed %d: the first %d of a log's entries are none", seed, many)
			}
		}
	}
}

// Of all lists of up to 5 marks that are small.
func TestOfManyMarks(t *testing.T) {
	for many := range 6 {
		for _, l := range fillings(many, []int{0, 1, 2, 3, 4, 5}) {
			var marks []api.Mark
			for _, n := range l {
				marks = append(marks, mark(n/3, 5-n%3))
			}
			best(t, farthest(marks), marks...)
		}
	}
	roll := dice(3)
	for range 20000 {
		var marks []api.Mark
		for range roll(12) {
			marks = append(marks, mark(pick(roll, 0, 1, 2, 3, -1, mostView, math.MaxInt, math.MinInt), pick(roll, 0, 1, 2, 149, 150, -1, math.MaxInt, math.MinInt)))
		}
		best(t, farthest(marks), marks...)
	}
}

// Marks are in one order: of two that differ just one is before the other one, and what is before what is before a mark is before it.
func TestMarksAreInOneOrder(t *testing.T) {
	var all []api.Mark
	for _, v := range []int{math.MinInt, -1, 0, 1, 2, mostView, math.MaxInt} {
		for _, n := range []int{math.MinInt, -1, 0, 1, 150, math.MaxInt} {
			all = append(all, mark(v, n))
		}
	}
	for _, a := range all {
		for _, b := range all {
			if rank.Less(a, b) != isBefore(a, b) || rank.Less(a, b) && rank.Less(b, a) || a != b && !rank.Less(a, b) && !rank.Less(b, a) {
				t.Errorf("P12.2: Less of %+v and %+v", a, b)
			}
			for _, c := range all {
				if rank.Less(a, b) && rank.Less(b, c) && !rank.Less(a, c) {
					t.Fatalf("P12.2: Less of %+v, %+v and %+v", a, b, c)
				}
			}
		}
	}
}

// Of all lists of up to one more than Ensemble acks that are small.
func TestOfManyAcks(t *testing.T) {
	for many := range api.Ensemble + 2 {
		for _, acks := range fillings(many, []int{-1, 0, 1, 2}) {
			held(t, ofQuorum(acks), acks...)
		}
	}
	roll := dice(4)
	for range 40000 {
		acks := make([]int, roll(api.Ensemble+2))
		for at := range acks {
			acks[at] = pick(roll, roll(151), roll(151), roll(4)-2, mostView, math.MaxInt, math.MinInt)
		}
		held(t, ofQuorum(acks), acks...)
	}
}

// What is held is so by Quorum's own words, and one more is not.
func TestWhatIsHeldIsTheGreatest(t *testing.T) {
	roll := dice(5)
	for range 20000 {
		acks := make([]int, 1+roll(api.Ensemble))
		for at := range acks {
			acks[at] = roll(30)
		}
		n, quorum := rank.Held(acks), rank.Quorum(len(acks))
		if has(acks, n) < quorum || has(acks, n+1) >= quorum {
			t.Fatalf("P12.3: Held(%v) is %d", acks, n)
		}
	}
}

func TestOfManyPairs(t *testing.T) {
	roll := dice(6)
	some := func() []api.Entry {
		var l []api.Entry
		for at := range roll(8) {
			l = append(l, entry(1+roll(20)/19, at+1+roll(20)/19, pick(roll, "a", "a", "a", "a", "a", "a", "a", "b")))
		}
		return l
	}
	seen := map[int]int{}
	for range 40000 {
		a, b := some(), some()
		n := front(a, b)
		common(t, fmt.Sprintf("%v and %v", a, b), a, b, n)
		seen[n]++
	}
	for n := range 6 {
		if seen[n] < 100 {
			t.Errorf("%d pairs have %d in common", seen[n], n)
		}
	}
}

func TestTwoQuorumsHaveAMemberInCommon(t *testing.T) {
	for _, many := range groups() {
		if twice := 2 * rank.Quorum(many); twice <= many {
			t.Errorf("P12.4: twice Quorum(%d) is %d", many, twice)
		}
		all := quorums(many)
		if len(all) == 0 {
			t.Errorf("P12.4: a group of %d has no quorum", many)
		}
		for _, a := range all {
			for _, b := range all {
				if !slices.ContainsFunc(a, func(m int) bool { return slices.Contains(b, m) }) {
					t.Errorf("P12.4: of %d members %v and %v have none in common", many, a, b)
				}
			}
		}
	}
}

func TestEachMemberLeadsOneOfAsManyViews(t *testing.T) {
	for _, many := range groups() {
		for _, first := range []int{0, 1, 2, 3, 50, 1 << 32, 1 << 61, mostView - 2*many, mostView - many, mostView - many + 1} {
			led := make([]int, many)
			for view := first; view < first+many; view++ {
				p := rank.Primary(view, many)
				if !within(p, 0, many-1) {
					t.Fatalf("P12.4: Primary(%d, %d) is %d", view, many, p)
				}
				led[p]++
			}
			if slices.ContainsFunc(led, func(n int) bool { return n != 1 }) {
				t.Errorf("P12.4: of %d views from %d on the members lead %v", many, first, led)
			}
		}
	}
}

// Acks are 0 at least: whichever quorum is asked, somebody in it has what is held.
func TestSomeOneOfAnyQuorumHasWhatIsHeld(t *testing.T) {
	for _, many := range groups() {
		all := quorums(many)
		for _, acks := range fillings(many, []int{0, 1, 2}) {
			n := rank.Held(acks)
			for _, set := range all {
				if !slices.ContainsFunc(set, func(m int) bool { return acks[m] >= n }) {
					t.Fatalf("P12.4: Held(%v) is %d, above all of %v", acks, n, set)
				}
			}
		}
	}
}

// walk does many calls of all kinds, and tells all that was told.
func walk(seed uint64) []string {
	roll := dice(seed)
	var told []string
	for range 500 {
		view, many := pick(roll, append(views(), noViews()...)...), roll(api.Ensemble+2)
		self := roll(many+2) - 1
		a, b := anyLog(roll), anyLog(roll)
		x, y := mark(roll(3), roll(3)), mark(roll(3), roll(3))
		acks := []int{roll(9), roll(9), roll(9)}
		v, is := rank.Next(view, self, many)
		told = append(told, fmt.Sprint(rank.Quorum(many), rank.Primary(view, many), v, is, rank.Right(a), rank.MarkOf(view, b), rank.Less(x, y), rank.Best([]api.Mark{y, x, y}), rank.Held(acks), rank.Common(a, b)))
	}
	return told
}

func TestTheSameCallsTellTheSame(t *testing.T) {
	for seed := range uint64(8) {
		first := walk(seed)
		walk(seed + 1) // other calls make no difference
		if again := walk(seed); !slices.Equal(first, again) {
			t.Errorf("R7: seed %d: the same calls tell others", seed)
		}
	}
}
