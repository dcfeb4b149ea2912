package elect_test

import (
	"fmt"
	"slices"
	"testing"

	"harpsichord/elect"
)

// model is a timer by the chapter's words.
type model struct{ self, many, span, wait, limit int }

func newModel(self, many, span int) *model {
	return &model{self, many, span, 0, span * (self + 2)}
}

func (m *model) tick(leads bool) (lead, nudge bool) {
	m.wait++
	if leads {
		nudge = m.wait >= m.span
	} else {
		lead = m.wait >= m.limit
	}
	if lead && m.limit+m.span*(m.many+2) <= mostLimit {
		m.limit += m.span * (m.many + 2)
	}
	if lead || nudge {
		m.wait = 0
	}
	return lead, nudge
}

// call is one of a timer: it hears somebody, or so many ticks of a kind go by.
type call struct {
	heard, leads bool
	ticks        int
}

// anyCall is a tick or two, or a row of them about as long as what is waited for, or a Heard.
func anyCall(roll func(int) int, span, limit int) call {
	ticks := pick(roll, 1, 1, 2, 1+roll(span), span-1, span, span+1, 1+roll(limit), limit-1, limit, limit+1)
	return call{heard: roll(6) == 0, leads: roll(3) == 0, ticks: ticks}
}

// do does a call, and tells what was told.
func do(x *elect.Timer, c call) []string {
	if c.heard {
		x.Heard()
		return []string{fmt.Sprint(x.Wait(), x.Limit())}
	}
	var told []string
	for range c.ticks {
		lead, nudge := x.Tick(c.leads)
		told = append(told, fmt.Sprint(lead, nudge, x.Wait(), x.Limit()))
	}
	return told
}

// follows does a call of a timer and of the model, and asks that they tell the same.
func (x timer) follows(m *model, c call) {
	x.t.Helper()
	if c.heard {
		x.Heard()
		m.wait = 0
		x.has("P14.1: Heard of many calls", 0, m.limit)
		return
	}
	for range c.ticks {
		lead, nudge := m.tick(c.leads)
		if a, b := x.Tick(c.leads); a != lead || b != nudge || x.Wait() != m.wait || x.Limit() != m.limit {
			x.t.Fatalf("P14.2: %s: Tick(%v) of many is %v, %v, not %v, %v; Wait %d, not %d; Limit %d, not %d", x.name, c.leads, a, b, lead, nudge, x.Wait(), m.wait, x.Limit(), m.limit)
		}
	}
}

func TestManyCalls(t *testing.T) {
	for _, m := range members() {
		for seed := range uint64(12) {
			roll := dice(seed*64 + uint64(m.many*8+m.self))
			span := pick(roll, 1, 1, 2, 3, 1+roll(20), 1+roll(100))
			x, same := fresh(t, m.self, m.many, span), newModel(m.self, m.many, span)
			for range 150 {
				x.follows(same, anyCall(roll, span, x.Limit()))
			}
		}
	}
}

// Of all rows of calls of up to 11 that are a Heard, or a tick of either kind.
func TestAllShortRowsOfCalls(t *testing.T) {
	for _, m := range []struct{ self, many, span int }{{0, 1, 1}, {0, 2, 2}, {1, 2, 1}, {0, 3, 3}, {1, 3, 2}} {
		for row := range 177147 { // 3 to the 11th
			x, same := fresh(t, m.self, m.many, m.span), newModel(m.self, m.many, m.span)
			for rest := row; rest > 0; rest /= 3 {
				x.follows(same, call{heard: rest%3 == 0, leads: rest%3 == 1, ticks: 1})
			}
		}
	}
}

func TestWhoLeadsNudgesEachSpan(t *testing.T) {
	for _, m := range members() {
		for span := 1; span <= mostSpan; span += 1 + span/8 {
			x := fresh(t, m.self, m.many, span)
			for tick := 1; tick <= 12*span; tick++ {
				if lead, nudge := x.Tick(true); lead || nudge != (tick%span == 0) {
					t.Fatalf("P14.4: %s leads: tick %d is %v, %v", x.name, tick, lead, nudge)
				}
			}
		}
	}
}

// Who leads never wants to lead, whatever it heard, and however long it waited ahead of it.
func TestWhoLeadsNeverWantsToLead(t *testing.T) {
	roll := dice(1)
	for range 200 {
		self, span := roll(5), 1+roll(30)
		x := fresh(t, self, 5, span)
		for range roll(3) {
			x.waitsWhole("P14.2", x.Limit()+7*span)
		}
		x.silent("P14.2", false, roll(x.Limit()))
		for range 300 {
			if roll(8) == 0 {
				x.Heard()
			}
			if lead, _ := x.Tick(true); lead {
				t.Fatalf("P14.4: %s leads, and wants to lead", x.name)
			}
		}
	}
}

// Between two Heards there are fewer ticks than Limit; also where it led between, and where the Limit has grown.
func TestWhoHearsSomebodyNeverWantsToLead(t *testing.T) {
	for _, m := range members() {
		roll := dice(uint64(m.many*8 + m.self))
		for _, span := range []int{1, 2, 3, 10} {
			x := fresh(t, m.self, m.many, span)
			for times := range 4 {
				for range 60 {
					x.Heard()
					x.silent("P14.4: it hears somebody", false, pick(roll, x.Limit()-1, roll(x.Limit())))
				}
				x.Heard()
				x.waitsWhole("P14.4: it hears nobody any more", span*(m.self+2)+(times+1)*span*(m.many+2))
			}
		}
	}
}

// first is the tick at which a member wants to lead that hears nobody.
func first(t *testing.T, self, many, span int) int {
	t.Helper()
	x := fresh(t, self, many, span)
	for tick := 1; tick <= mostLimit; tick++ {
		if lead, _ := x.Tick(false); lead {
			return tick
		}
	}
	t.Fatalf("P14.2: %s never wants to lead", x.name)
	return 0
}

func TestTwoMembersDoNotWantToLeadAtOneTick(t *testing.T) {
	for many := 1; many <= 7; many++ {
		for span := 1; span <= mostSpan; span += 1 + span/50 {
			at := map[int]int{} // which member wants to lead at a tick
			for self := range many {
				tick := first(t, self, many, span)
				if other, is := at[tick]; is {
					t.Fatalf("P14.4: of %d members, span %d, both %d and %d want to lead at tick %d", many, span, other, self, tick)
				}
				at[tick] = self
			}
		}
	}
}

// A group whose members hear whoever nudges: one leads, the others follow; then it is silent, and the next one leads.
func TestAGroupIsLedByOne(t *testing.T) {
	for many := 2; many <= 7; many++ {
		for _, span := range []int{1, 2, 5, 40} {
			var group []timer
			for self := range many {
				group = append(group, fresh(t, self, many, span))
			}
			leader := -1
			for gone := range many { // whoever is below is silent
				leader = ledFor(t, group, gone, leader, 40*span)
				if leader != gone {
					t.Fatalf("P14.4: of %d, span %d, %d lead where %d are gone", many, span, leader, gone)
				}
				leader = -1
			}
		}
	}
}

// ledFor lets ticks go by for all members but those who are gone, and tells who leads then; there is no change from one to another.
func ledFor(t *testing.T, group []timer, gone, leader, ticks int) int {
	t.Helper()
	for range ticks {
		for self := gone; self < len(group); self++ {
			lead, nudge := group[self].Tick(self == leader)
			if lead && leader >= 0 {
				t.Fatalf("P14.4: %s wants to lead where %d leads", group[self].name, leader)
			}
			if lead {
				leader = self
			}
			if lead || nudge {
				for other := gone; other < len(group); other++ {
					group[other].Heard()
				}
			}
		}
	}
	return leader
}

// walk does many calls of some timers in turn, and tells all that each one told; those of but are left out.
func walk(t *testing.T, seed uint64, but ...int) [][]string {
	t.Helper()
	roll := dice(seed)
	var all []timer
	for _, m := range []struct{ self, many, span int }{{0, 1, 1}, {1, 3, 2}, {1, 3, 2}, {6, 7, 5}} {
		all = append(all, fresh(t, m.self, m.many, m.span))
	}
	told := make([][]string, len(all))
	for range 400 {
		at := roll(len(all))
		c := anyCall(roll, 2, 40)
		if !slices.Contains(but, at) {
			told[at] = append(told[at], do(all[at].Timer, c)...)
		}
	}
	return told
}

func TestTimersDoNotTouchEachOther(t *testing.T) {
	for seed := range uint64(20) {
		all := walk(t, seed)
		for alone := range all {
			others := slices.DeleteFunc([]int{0, 1, 2, 3}, func(at int) bool { return at == alone })
			if told := walk(t, seed, others...); !slices.Equal(told[alone], all[alone]) {
				t.Fatalf("R6: seed %d: timer %d tells others alone", seed, alone)
			}
		}
	}
}

func TestTheSameCallsTellTheSame(t *testing.T) {
	for seed := range uint64(20) {
		one := walk(t, seed)
		walk(t, seed+1) // other calls make no difference
		if two := walk(t, seed); !slices.EqualFunc(one, two, slices.Equal) {
			t.Errorf("R7: seed %d: the same calls tell others", seed)
		}
	}
}
