package lease_test

import (
	"cmp"
	"fmt"
	"slices"
	"testing"

	"harpsichord/api"
	"harpsichord/lease"
)

// model is a table by the chapter's words: its leases by their ids.
type model map[int]lease.Lease

func within(n, from, to int) bool {
	return from <= n && n <= to
}

func (m model) open(id, span, now int) api.Errno {
	_, there := m[id]
	if !within(id, 1, mostId) || !within(span, 1, mostSpan) || !within(now, 0, api.MaxClock) || there || len(m) >= most {
		return api.ErrArg
	}
	m[id] = of(id, span, now)
	return api.OK
}

func (m model) renew(id, now int) api.Errno {
	x, there := m[id]
	if !within(now, 0, api.MaxClock) {
		return api.ErrArg
	}
	if !there {
		return api.ErrLeaseNone
	}
	if now > x.Last {
		x.Last = now
	}
	m[id] = x
	return api.OK
}

func (m model) close(id int) api.Errno {
	if _, there := m[id]; !there {
		return api.ErrLeaseNone
	}
	delete(m, id)
	return api.OK
}

func (m model) ended(now int) []int {
	var l []int
	for id, x := range m {
		if within(now, 0, api.MaxClock) && now-x.Last > x.Span {
			l = append(l, id)
		}
	}
	slices.Sort(l)
	return l
}

func (m model) all() []lease.Lease {
	var l []lease.Lease
	for _, x := range m {
		l = append(l, x)
	}
	slices.SortFunc(l, func(a, b lease.Lease) int { return cmp.Compare(a.Id, b.Id) })
	return l
}

func (m model) clone() model {
	c := model{}
	for id, x := range m {
		c[id] = x
	}
	return c
}

// dice tells numbers below n, always the same ones for a seed.
func dice(seed uint64) func(n int) int {
	x := seed
	return func(n int) int {
		x = x*6364136223846793005 + 1442695040888963407
		return int(x>>33) % n
	}
}

// pick is one of a list.
func pick[T any](roll func(int) int, l ...T) T {
	return l[roll(len(l))]
}

// mixed are the same things in another order.
func mixed[T any](roll func(int) int, l []T) []T {
	l = slices.Clone(l)
	for k := range l {
		other := k + roll(len(l)-k)
		l[k], l[other] = l[other], l[k]
	}
	return l
}

// anyId, anySpan and anyTime are small most often; at a bound, or beyond one, at times.
func anyId(roll func(int) int, n int) int {
	if roll(15) == 0 {
		return pick(roll, append(ids(), noIds()...)...)
	}
	return 1 + roll(n)
}

func anySpan(roll func(int) int) int {
	if roll(15) == 0 {
		return pick(roll, append(spans(), noSpans()...)...)
	}
	return 1 + roll(30)
}

func anyTime(roll func(int) int) int {
	if roll(15) == 0 {
		return pick(roll, append(times(), noTimes()...)...)
	}
	return roll(200)
}

// pair is a table, and a model that it is held against.
type pair struct {
	l *lease.Table
	m model
}

// step does one call with both, and tells what the table told.
func step(t *testing.T, what string, p *pair, roll func(int) int, n int) string {
	id, span, now := anyId(roll, n), anySpan(roll), anyTime(roll)
	var got, want string
	switch kind := roll(100); {
	case kind < 40:
		call := fmt.Sprintf("Open(%d, %d, %d) ", id, span, now)
		got, want = fmt.Sprint(call, p.l.Open(id, span, now)), fmt.Sprint(call, p.m.open(id, span, now))
	case kind < 60:
		call := fmt.Sprintf("Renew(%d, %d) ", id, now)
		got, want = fmt.Sprint(call, p.l.Renew(id, now)), fmt.Sprint(call, p.m.renew(id, now))
	case kind < 75:
		call := fmt.Sprintf("Close(%d) ", id)
		got, want = fmt.Sprint(call, p.l.Close(id)), fmt.Sprint(call, p.m.close(id))
	case kind < 85:
		x, there := p.l.Get(id)
		y, in := p.m[id]
		got, want = fmt.Sprint("Get ", x, there), fmt.Sprint("Get ", y, in)
	case kind < 95:
		got, want = fmt.Sprint("Ended ", p.l.Ended(now)), fmt.Sprint("Ended ", p.m.ended(now))
	default:
		p.l = loaded(t, p.l.All()...) // P10.3: the same table, which goes on alike
		got, want = "Load", "Load"
	}
	if got != want {
		t.Fatalf("%s: %s, not %s", what, short(got), short(want))
	}
	if all, want := p.l.All(), p.m.all(); !slices.Equal(all, want) {
		t.Fatalf("%s: behind %s: All is %s, not %s", what, got, short(all), short(want))
	}
	return got
}

// walk holds tables and their clones against models on many calls with some n ids, and tells all that was told.
func walk(t *testing.T, seed uint64, n, calls int) []string {
	roll := dice(seed)
	pairs := []*pair{{lease.New(), model{}}}
	var told []string
	for call := range calls {
		k := roll(len(pairs))
		told = append(told, step(t, fmt.Sprintf("seed %d, call %d", seed, call), pairs[k], roll, n))
		if roll(50) == 0 {
			copied := &pair{pairs[k].l.Clone(), pairs[k].m.clone()}
			if len(pairs) < 4 {
				pairs = append(pairs, copied)
			} else {
				pairs[roll(4)] = copied
			}
		}
	}
	for _, p := range pairs {
		holds(t, fmt.Sprintf("seed %d, at last", seed), p.l, p.m.all()...)
	}
	return told
}

func TestOfManyCalls(t *testing.T) {
	for seed := range uint64(40) {
		walk(t, seed, 2+3*int(seed), 1000)
	}
}

// On a table that has no room, or little.
func TestOfManyCallsOnAFullTable(t *testing.T) {
	for seed := range uint64(8) {
		roll := dice(100 + seed)
		p := &pair{lease.New(), model{}}
		full := 0
		for call := range 1500 {
			for len(p.m) < most-2 {
				id, span, now := 1+roll(130), 1+roll(30), roll(200)
				if got, want := p.l.Open(id, span, now), p.m.open(id, span, now); got != want {
					t.Fatalf("seed %d: Open(%d, %d, %d) is %d, not %d", seed, id, span, now, got, want)
				}
			}
			step(t, fmt.Sprintf("seed %d, call %d", seed, call), p, roll, 130)
			if len(p.m) == most {
				full++
			}
		}
		if full < 100 {
			t.Errorf("seed %d: it was full %d times", seed, full)
		}
	}
}

// worn is a table behind many calls.
func worn(roll func(int) int) *lease.Table {
	l := lease.New()
	for range 300 {
		id := anyId(roll, 60)
		switch roll(4) {
		case 0, 1:
			l.Open(id, anySpan(roll), anyTime(roll))
		case 2:
			l.Renew(id, anyTime(roll))
		default:
			l.Close(id)
		}
	}
	return l
}

// Behind many calls, Load of All is the same table, and both go on alike.
func TestLoadOfAll(t *testing.T) {
	for seed := range uint64(60) {
		roll := dice(300 + seed)
		a := worn(roll)
		all := a.All()
		if len(all) < 5 {
			t.Fatalf("seed %d: %d leases", seed, len(all))
		}
		b := loaded(t, all...)
		for range 200 {
			id, span, now := anyId(roll, 60), anySpan(roll), anyTime(roll)
			var one, other any
			switch roll(4) {
			case 0:
				one, other = a.Open(id, span, now), b.Open(id, span, now)
			case 1:
				one, other = a.Renew(id, now), b.Renew(id, now)
			case 2:
				one, other = a.Close(id), b.Close(id)
			default:
				one, other = fmt.Sprint(a.Ended(now)), fmt.Sprint(b.Ended(now))
			}
			if one != other || !slices.Equal(a.All(), b.All()) {
				t.Fatalf("P10.3: seed %d: %v and %v: %s and %s", seed, one, other, short(a.All()), short(b.All()))
			}
		}
	}
}

// What was renewed less than its Span ago has not ended.
func TestWhatWasRenewedHasNotEnded(t *testing.T) {
	for seed := range uint64(60) {
		roll := dice(400 + seed)
		l := worn(roll)
		for _, x := range l.All() {
			now := roll(300)
			if l.Renew(x.Id, now) != api.OK {
				t.Fatalf("P10.1: seed %d: Renew(%d, %d)", seed, x.Id, now)
			}
			for _, later := range []int{now, now + x.Span/2, now + x.Span - 1} {
				if slices.Contains(l.Ended(later), x.Id) {
					t.Fatalf("P10.3: seed %d: %+v, renewed at %d, has ended at %d", seed, x, now, later)
				}
			}
		}
	}
}

// What has ended has ended at any later time, unless it was renewed, or is there no more.
func TestWhatHasEnded(t *testing.T) {
	for seed := range uint64(60) {
		roll := dice(500 + seed)
		l := worn(roll)
		now := 0
		over := l.Ended(now)
		seen := 0
		for range 400 {
			id := anyId(roll, 60)
			spared := 0
			switch roll(6) {
			case 0:
				l.Renew(id, now)
				spared = id
			case 1:
				l.Close(id)
				spared = id
			case 2:
				l.Open(id, anySpan(roll), anyTime(roll))
			}
			now = min(now+roll(4), api.MaxClock)
			next := l.Ended(now)
			for _, id := range over {
				if id != spared && !slices.Contains(next, id) {
					t.Fatalf("P10.3: seed %d: %d has ended, but not at %d", seed, id, now)
				}
			}
			over = next
			seen += len(next)
		}
		if seen < 400 {
			t.Errorf("seed %d: %d have ended", seed, seen)
		}
	}
}

func TestTheSameCallsTellTheSame(t *testing.T) {
	for seed := range uint64(8) {
		first := walk(t, seed, 30, 600)
		walk(t, seed+1, 40, 200) // other tables make no difference
		if again := walk(t, seed, 30, 600); !slices.Equal(first, again) {
			t.Errorf("R7: seed %d: the same calls tell others", seed)
		}
	}
}

// Whatever the order in which leases came, the same is told.
func TestTheOrderOfComingIsNotTold(t *testing.T) {
	all := many(60)
	first := table(t, all...)
	for seed := range uint64(50) {
		l := table(t, mixed(dice(seed), all)...)
		for now := range 60 {
			ended(t, l, now, first.Ended(now)...)
		}
	}
}
