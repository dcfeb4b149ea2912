package elect_test

import (
	"math"
	"testing"

	"harpsichord/api"
	"harpsichord/elect"
	"harpsichord/rank"
)

func TestExampleOfAMember(t *testing.T) {
	x := fresh(t, 1, 3, 2)
	x.has("P14.1: the example", 0, 6)
	x.silent("P14.2: the example", false, 5)
	x.wants("P14.2: the example", 16)
}

func TestExampleOfWhoLeads(t *testing.T) {
	x := fresh(t, 1, 3, 2)
	x.silent("P14.2: the example", true, 1)
	x.nudges("P14.2: the example")
}

// With the Limits written out.
func TestNew(t *testing.T) {
	for _, c := range []struct{ self, many, span, limit int }{
		{0, 1, 1, 2}, {0, 1, 1000, 2000}, {0, 2, 1, 2}, {1, 2, 1, 3}, {2, 3, 1, 4}, {0, 3, 2, 4}, {1, 3, 2, 6}, {2, 3, 2, 8},
		{3, 5, 10, 50}, {0, 7, 1, 2}, {6, 7, 1, 8}, {0, 7, 1000, 2000}, {1, 7, 999, 2997}, {6, 7, 1000, 8000},
	} {
		fresh(t, c.self, c.many, c.span).has("P14.1: New", 0, c.limit)
	}
}

func TestNewOfEachMember(t *testing.T) {
	for _, m := range members() {
		for span := 1; span <= mostSpan; span++ {
			fresh(t, m.self, m.many, span).has("P14.1: New", 0, span*(m.self+2))
		}
	}
}

// refused asks that there is no such timer.
func refused(t *testing.T, self, many, span int) {
	t.Helper()
	if x, e := elect.New(self, many, span); e != api.ErrArg || x != nil {
		t.Errorf("P14.1: New(%d, %d, %d) is %d, a timer: %v", self, many, span, e, x != nil)
	}
}

func TestNewOfNoMember(t *testing.T) {
	for _, m := range strangers() {
		for _, span := range []int{1, 2, 500, mostSpan} {
			refused(t, m.self, m.many, span)
		}
	}
}

func TestNewOfNoSpan(t *testing.T) {
	for _, m := range members() {
		for _, span := range noSpans() {
			refused(t, m.self, m.many, span)
		}
	}
	for _, m := range strangers() {
		for _, span := range noSpans() {
			refused(t, m.self, m.many, span)
		}
	}
}

// All around the bounds, by the chapter's words.
func TestNewAroundTheBounds(t *testing.T) {
	for many := -2; many <= api.Ensemble+3; many++ {
		for self := -2; self <= many+2; self++ {
			for _, span := range []int{-2, -1, 0, 1, 2, mostSpan - 1, mostSpan, mostSpan + 1, mostSpan + 2} {
				if many < 1 || many > api.Ensemble || self < 0 || self >= many || span < 1 || span > mostSpan {
					refused(t, self, many, span)
				} else {
					fresh(t, self, many, span).has("P14.1: New", 0, span*(self+2))
				}
			}
		}
	}
}

// A refused New leaves the timers alone that there are.
func TestWhatARefusedNewLeaves(t *testing.T) {
	x := fresh(t, 1, 3, 2)
	x.silent("P14.2", false, 3)
	refused(t, 1, 3, 0)
	refused(t, 3, 3, 2)
	x.has("R2: behind a refused New", 3, 6)
}

func TestHeardBehindNoTick(t *testing.T) {
	for _, m := range members() {
		x := fresh(t, m.self, m.many, 3)
		for range 3 {
			x.Heard()
			x.has("P14.1: Heard behind no tick", 0, 3*(m.self+2))
		}
		x.waitsWhole("P14.1: Heard behind no tick", 3*(m.self+2)+3*(m.many+2))
	}
}

// Behind any number of ticks that tell nothing, also of all but the last one ahead of the Limit: the whole Limit goes by anew.
func TestHeardBehindSomeTicks(t *testing.T) {
	for _, m := range members() {
		for _, span := range []int{1, 2, 5} {
			limit := span * (m.self + 2)
			for ticks := 1; ticks < limit; ticks++ {
				x := fresh(t, m.self, m.many, span)
				x.silent("P14.2: ahead of the Limit", false, ticks)
				x.has("P14.2: ahead of the Limit", ticks, limit)
				x.Heard()
				x.has("P14.1: Heard", 0, limit)
				x.Heard()
				x.has("P14.1: Heard twice", 0, limit)
				x.waitsWhole("P14.1: Heard behind some ticks", limit+span*(m.many+2))
			}
		}
	}
}

// Who is heard lets the Limit stay that has grown.
func TestHeardLeavesTheLimit(t *testing.T) {
	x := fresh(t, 1, 3, 2)
	x.waitsWhole("P14.2", 16)
	x.Heard()
	x.has("P14.1: Heard behind the tick that wants to lead", 0, 16)
	x.silent("P14.2", false, 15)
	x.Heard()
	x.has("P14.1: Heard ahead of the Limit", 0, 16)
	x.waitsWhole("P14.2", 26)
	x.silent("P14.2", false, 10)
	x.Heard()
	x.has("P14.1: Heard behind some ticks", 0, 26)
	x.waitsWhole("P14.2", 36)
}

// Heard counts for who leads as well.
func TestHeardOfWhoLeads(t *testing.T) {
	for _, span := range []int{2, 3, 10, mostSpan} {
		x := fresh(t, 1, 3, span)
		x.silent("P14.2", true, span-1)
		x.Heard()
		x.has("P14.1: Heard ahead of the nudge", 0, 3*span)
		x.silent("P14.2", true, span-1)
		x.nudges("P14.2")
		x.Heard()
		x.has("P14.1: Heard behind the nudge", 0, 3*span)
	}
}

// The ticks ahead of the Limit, at it, and behind.
func TestTickTillItWantsToLead(t *testing.T) {
	for _, m := range members() {
		for _, span := range []int{1, 2, 3, 7, 100, mostSpan} {
			x := fresh(t, m.self, m.many, span)
			for times := 1; times <= 4; times++ {
				x.waitsWhole("P14.2: Tick(false)", span*(m.self+2)+times*span*(m.many+2))
			}
			x.silent("P14.2: behind the tick that wants to lead", false, 1)
		}
	}
}

func TestTickOfWhoLeadsWithSpan1(t *testing.T) {
	for _, m := range members() {
		x := fresh(t, m.self, m.many, 1)
		for range 10 {
			x.nudges("P14.2: Tick(true), span 1")
		}
		x.has("P14.2: Tick(true), span 1", 0, m.self+2)
	}
}

// The ticks ahead of span, at it, and behind; also where the Limit has grown.
func TestTickOfWhoLeads(t *testing.T) {
	for _, m := range members() {
		for _, span := range []int{2, 3, 7, 100, mostSpan} {
			x := fresh(t, m.self, m.many, span)
			for times := range 5 {
				x.has("P14.2: Tick(true)", 0, span*(m.self+2)+times*span*(m.many+2))
				for range 3 {
					x.silent("P14.2: Tick(true)", true, span-1)
					x.nudges("P14.2: Tick(true)")
				}
				x.waitsWhole("P14.2: Tick(false) behind it", span*(m.self+2)+(times+1)*span*(m.many+2))
			}
		}
	}
}

// Who has waited for above span when it leads nudges at its first tick, once, and does not want to lead.
func TestWaitAboveSpanWhenItLeads(t *testing.T) {
	for _, m := range members() {
		for _, span := range []int{1, 2, 5} {
			limit := span * (m.self + 2)
			for wait := span - 1; wait < limit; wait++ {
				x := fresh(t, m.self, m.many, span)
				x.silent("P14.2", false, wait)
				x.nudges("P14.2: a wait near to span, or above")
				x.silent("P14.2: behind it", true, span-1)
				x.nudges("P14.2: behind it")
				x.has("P14.2: behind it", 0, limit)
			}
		}
	}
}

// Ticks of both kinds count for one Wait.
func TestTicksOfBothKinds(t *testing.T) {
	x := fresh(t, 1, 3, 4) // Limit 12
	x.silent("P14.2", false, 2)
	x.silent("P14.2", true, 1)
	x.has("P14.2: both kinds", 3, 12)
	x.nudges("P14.2: both kinds")
	x.silent("P14.2", true, 3)
	x.silent("P14.2: above span, but it does not lead", false, 8)
	x.has("P14.2: both kinds", 11, 12)
	x.wants("P14.2: both kinds", 32)
	x.silent("P14.2", true, 3)
	x.silent("P14.2", false, 28)
	x.nudges("P14.2: at the Limit, but it leads")
	x.has("P14.2: at the Limit, but it leads", 0, 32)
	x.waitsWhole("P14.2", 52)
}

func TestTicksInTurn(t *testing.T) {
	x := fresh(t, 0, 2, 3) // Limit 6
	for range 20 {
		x.silent("P14.2: in turn", true, 1)
		x.silent("P14.2: in turn", false, 1)
		x.nudges("P14.2: in turn")
		x.silent("P14.2: in turn", false, 1)
		x.silent("P14.2: in turn", true, 1)
		x.silent("P14.2: in turn", false, x.Limit()-3)
		x.wants("P14.2: in turn", x.Limit()+12)
	}
	x.has("P14.2: in turn", 0, 6+20*12)
}

// view asks for a View.
func view(t *testing.T, promised, self, many, want int, is bool) {
	t.Helper()
	if v, ok := elect.View(promised, self, many); v != want || ok != is {
		t.Fatalf("P14.3: View(%d, %d, %d) is %d, %v, not %d, %v", promised, self, many, v, ok, want, is)
	}
}

func TestView(t *testing.T) {
	view(t, 7, 0, 3, 9, true)
	view(t, 7, 1, 3, 10, true)
	view(t, 7, 2, 3, 8, true)
	view(t, 0, 0, 1, 1, true)
	view(t, 0, 0, 3, 3, true)
	view(t, 0, 1, 3, 1, true)
	view(t, 0, 6, 7, 6, true)
	view(t, 6, 6, 7, 13, true)
	view(t, 1<<32+1, 0, 2, 1<<32+2, true)
}

// View 2^62 is the last one; it is that of member 0 of 1, 2 and 4, 1 of 3, 4 of 5, 4 of 6 and 4 of 7.
func TestLastView(t *testing.T) {
	for many, last := range map[int]int{1: 0, 2: 0, 3: 1, 4: 0, 5: 4, 6: 4, 7: 4} {
		for self := range many {
			if self == last {
				view(t, mostView-1, self, many, mostView, true)
				view(t, mostView-many, self, many, mostView, true)
			} else {
				view(t, mostView-1, self, many, 0, false)
			}
			view(t, mostView, self, many, 0, false)
		}
	}
}

func TestNoView(t *testing.T) {
	for _, m := range members() {
		for _, promised := range []int{-1, -2, -7, math.MinInt32, -mostView, math.MinInt, mostView, mostView + 1, mostView + 7, math.MaxInt - 1, math.MaxInt} {
			view(t, promised, m.self, m.many, 0, false)
		}
	}
	for _, m := range strangers() {
		for _, promised := range []int{math.MinInt, -1, 0, 1, 7, mostView - 1, mostView, math.MaxInt} {
			view(t, promised, m.self, m.many, 0, false)
		}
	}
}

// The least view above promised that is self's, by the chapter's words, and what rank.Next says.
func TestManyViews(t *testing.T) {
	for many := -2; many <= api.Ensemble+2; many++ {
		for self := -2; self <= many+2; self++ {
			for at := -3; at <= 60; at++ {
				for _, promised := range []int{at, mostView + 3 - at} {
					v, is := following(promised, self, many)
					view(t, promised, self, many, v, is)
					v, is = rank.Next(promised, self, many)
					view(t, promised, self, many, v, is)
				}
			}
		}
	}
}

func following(promised, self, many int) (int, bool) {
	if promised < 0 || promised > mostView || many < 1 || many > api.Ensemble || self < 0 || self >= many {
		return 0, false
	}
	for v := promised + 1; v <= mostView; v++ {
		if v%many == self {
			return v, true
		}
	}
	return 0, false
}
