package elect_test

import (
	"fmt"
	"math"
	"testing"

	"harpsichord/api"
	"harpsichord/elect"
)

// The bounds that the chapters name.
const (
	mostView  = 1 << 62
	mostSpan  = 1000
	mostLimit = 1000000
)

// member is one of a group.
type member struct{ self, many int }

// members are all members of all groups.
func members() []member {
	var l []member
	for many := 1; many <= api.Ensemble; many++ {
		for self := range many {
			l = append(l, member{self, many})
		}
	}
	return l
}

// strangers are members that no group has, or of groups that there are none of.
func strangers() []member {
	l := []member{{0, math.MinInt}, {math.MinInt, math.MinInt}, {0, -mostView}, {0, -1}, {-1, -1}, {-1, 0}, {0, 0}, {1, 0}}
	for many := 1; many <= api.Ensemble; many++ {
		for _, self := range []int{math.MinInt, -mostView, math.MinInt32, -many, -2, -1, many, many + 1, 2 * many, 256, 1 << 32, mostView, math.MaxInt} {
			l = append(l, member{self, many})
		}
	}
	for _, many := range []int{api.Ensemble + 1, api.Ensemble + 2, 255, 256, 257, 1<<32 + 3, mostView, math.MaxInt - 2, math.MaxInt} {
		for _, self := range []int{math.MinInt, -1, 0, 1, api.Ensemble - 1, api.Ensemble, many - 1, many} {
			l = append(l, member{self, many})
		}
	}
	return l
}

// noSpans are numbers that are no span.
func noSpans() []int {
	return []int{0, -1, -2, -mostSpan, math.MinInt32, math.MinInt, mostSpan + 1, mostSpan + 2, 1 << 16, 1<<32 + 5, mostView, math.MaxInt - 1, math.MaxInt}
}

// timer is one of a member, and the test that asks it.
type timer struct {
	*elect.Timer
	t    *testing.T
	name string
}

// fresh is a new timer.
func fresh(t *testing.T, self, many, span int) timer {
	t.Helper()
	x, e := elect.New(self, many, span)
	if e != api.OK || x == nil {
		t.Fatalf("P14.1: New(%d, %d, %d) is %d", self, many, span, e)
	}
	return timer{x, t, fmt.Sprintf("member %d of %d, span %d", self, many, span)}
}

// has asks for the Wait and the Limit.
func (x timer) has(what string, wait, limit int) {
	x.t.Helper()
	if x.Wait() != wait || x.Limit() != limit {
		x.t.Fatalf("%s: %s: Wait is %d, not %d; Limit %d, not %d", what, x.name, x.Wait(), wait, x.Limit(), limit)
	}
}

// tells asks what a tick tells.
func (x timer) tells(what string, leads, lead, nudge bool) {
	x.t.Helper()
	if a, b := x.Tick(leads); a != lead || b != nudge {
		x.t.Fatalf("%s: %s: Tick(%v) is %v, %v, with Wait %d and Limit %d behind it", what, x.name, leads, a, b, x.Wait(), x.Limit())
	}
}

// silent lets so many ticks tell nothing, each of which makes Wait greater by 1 and leaves the Limit.
func (x timer) silent(what string, leads bool, ticks int) {
	x.t.Helper()
	wait, limit := x.Wait(), x.Limit()
	for range ticks {
		lead, nudge := x.Tick(leads)
		wait++
		if lead || nudge || x.Wait() != wait || x.Limit() != limit {
			x.t.Fatalf("%s: %s: Tick(%v) is %v, %v where Wait should be %d, and is %d; Limit %d, and is %d", what, x.name, leads, lead, nudge, wait, x.Wait(), limit, x.Limit())
		}
	}
}

// wants lets a tick tell that it wants to lead; then its Limit is another one.
func (x timer) wants(what string, limit int) {
	x.t.Helper()
	x.tells(what, false, true, false)
	x.has(what+": it wants to lead", 0, limit)
}

// nudges lets a tick tell that it nudges; the Limit stays.
func (x timer) nudges(what string) {
	x.t.Helper()
	limit := x.Limit()
	x.tells(what, true, false, true)
	x.has(what+": it nudges", 0, limit)
}

// waitsWhole lets a whole Limit of ticks go by, from one that begins anew; then the Limit is another one.
func (x timer) waitsWhole(what string, limit int) {
	x.t.Helper()
	x.silent(what, false, x.Limit()-1)
	x.wants(what, limit)
}

// dice tells numbers below n, always the same ones for a seed.
func dice(seed uint64) func(n int) int {
	x := seed
	return func(n int) int {
		x = x*6364136223846793005 + 1442695040888963407
		return int(x>>33) % n
	}
}

// pick is one of a list.
func pick[T any](roll func(int) int, l ...T) T {
	return l[roll(len(l))]
}
