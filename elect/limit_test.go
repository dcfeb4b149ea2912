package elect_test

import (
	"fmt"
	"testing"
)

// quiet lets so many ticks tell nothing; asked less of each than silent does, for there are some 10^8.
func (x timer) quiet(ticks int) {
	x.t.Helper()
	limit := x.Limit()
	for at := 1; at <= ticks; at++ {
		if lead, nudge := x.Tick(false); lead || nudge || x.Wait() != at {
			x.t.Fatalf("P14.2: %s: Tick %d of Limit %d is %v, %v; Wait is %d", x.name, at, limit, lead, nudge, x.Wait())
		}
	}
	x.has("P14.2: ahead of the Limit", ticks, limit)
}

// grows lets the Limit grow, by each whole Limit of ticks, as long as it would not be above most.
func (x timer) grows(growth, most int) {
	x.t.Helper()
	for x.Limit()+growth <= most {
		longer := x.Limit() + growth
		x.quiet(x.Limit() - 1)
		x.wants("P14.2: the Limit grows", longer)
	}
}

// stays asks that the Limit is the last one, which stays, whatever comes.
func (x timer) stays(last int) {
	x.t.Helper()
	x.has("P14.2: the last Limit", 0, last)
	for range 3 {
		x.quiet(last - 1)
		x.wants("P14.2: the last Limit", last)
	}
	x.quiet(last - 1)
	x.Heard()
	x.has("P14.1: Heard at the last Limit", 0, last)
	x.quiet(last - 1)
	x.nudges("P14.2: at the last Limit, but it leads")
	x.quiet(last - 1)
	x.wants("P14.2: the last Limit", last)
}

// A span of 1 gets to its last Limit behind above 10^10 ticks only; so this goes as far as some 10^6 lead.
func TestLimitOfSpan1(t *testing.T) {
	for _, m := range members() {
		x := fresh(t, m.self, m.many, 1)
		x.grows(m.many+2, 5000)
		if x.Limit() <= 5000-(m.many+2) || (x.Limit()-(m.self+2))%(m.many+2) != 0 {
			t.Errorf("P14.2: %s: Limit is %d", x.name, x.Limit())
		}
	}
}

// The last Limits are written out: they are the greatest ones not above 1000000.
func TestLimitOfTheGreatestSpan(t *testing.T) {
	reach(t, 0, 1, 1000, 998000)
	reach(t, 1, 2, 1000, 999000)
	reach(t, 0, 3, 1000, 997000)
	reach(t, 2, 3, 1000, 999000)
	reach(t, 1, 4, 1000, 999000)
	reach(t, 0, 5, 1000, 996000)
	reach(t, 3, 6, 1000, 997000)
	reach(t, 0, 7, 1000, 992000)
	reach(t, 6, 7, 1000, 998000)
}

// Such that the Limit just reaches 1000000, which is not above it.
func TestLimitThatJustReachesTheGreatest(t *testing.T) {
	reach(t, 2, 4, 1000, mostLimit)
	reach(t, 4, 5, 1000, mostLimit)
	reach(t, 6, 7, 800, mostLimit)
	reach(t, 3, 7, 200, mostLimit)
}

// Such that one that is greater would be 1000001, 1000004 and 1000005.
func TestLimitThatWouldJustPassTheGreatest(t *testing.T) {
	reach(t, 3, 6, 101, 1000001-101*8)
	reach(t, 0, 5, 356, 1000004-356*7)
	reach(t, 1, 7, 815, 1000005-815*9)
}

func TestLimitThatIsOneBelowTheGreatest(t *testing.T) {
	reach(t, 0, 7, 999, mostLimit-1)
	reach(t, 4, 7, 819, mostLimit-1)
}

// reach lets a timer's Limit grow as far as it does, and asks which is the last one; each beside the others.
func reach(t *testing.T, self, many, span, last int) {
	t.Helper()
	t.Run(fmt.Sprint(self, many, span), func(t *testing.T) {
		t.Parallel()
		x := fresh(t, self, many, span)
		x.grows(span*(many+2), mostLimit)
		x.stays(last)
	})
}
