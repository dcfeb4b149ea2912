package lease_test

import (
	"fmt"
	"math"
	"slices"
	"testing"

	"harpsichord/api"
	"harpsichord/lease"
)

// The bounds of what a table and a lease may have.
const (
	most     = 100
	mostId   = 1 << 62
	mostSpan = 1000000
)

// ids are some that a lease may have, and noIds some that none may.
func ids() []int {
	return []int{1, 2, 99, 100, 101, 255, 256, math.MaxInt32, math.MaxInt32 + 1, 1<<32 + 1, 1 << 61, mostId - 1, mostId}
}

func noIds() []int {
	return []int{0, -1, -2, -100, math.MinInt32, -mostId, math.MinInt, mostId + 1, mostId + 2, math.MaxInt}
}

func spans() []int {
	return []int{1, 2, 10, 255, 256, 65536, mostSpan - 1, mostSpan}
}

func noSpans() []int {
	return []int{0, -1, -2, -mostSpan, math.MinInt, mostSpan + 1, mostSpan + 2, 1<<32 + 1, math.MaxInt}
}

func times() []int {
	return []int{0, 1, 2, mostSpan, math.MaxInt32 + 1, api.MaxClock - 1, api.MaxClock}
}

func noTimes() []int {
	return []int{-1, -2, -api.MaxClock, math.MinInt, api.MaxClock + 1, api.MaxClock + 2, 1 << 62, math.MaxInt}
}

// of is a lease.
func of(id, span, last int) lease.Lease {
	return lease.Lease{Id: id, Span: span, Last: last}
}

// short is anything as a line that can be read, however long it is.
func short(x any) string {
	s := fmt.Sprintf("%+v", x)
	return s[:min(len(s), 1200)]
}

// holds asks that a table has these leases, by rising ids, and no other: by All, and by Get of each, and of its neighbours.
func holds(t *testing.T, what string, l *lease.Table, want ...lease.Lease) {
	t.Helper()
	if all := l.All(); !slices.Equal(all, want) {
		t.Fatalf("%s: All is %s, not %s", what, short(all), short(want))
	}
	for k, x := range want {
		got(t, what, l, x)
		if x.Id > 1 && (k == 0 || want[k-1].Id != x.Id-1) {
			lacks(t, what, l, x.Id-1)
		}
		if k == len(want)-1 || want[k+1].Id != x.Id+1 {
			lacks(t, what, l, x.Id+1)
		}
	}
}

// got asks that Get tells a lease.
func got(t *testing.T, what string, l *lease.Table, want lease.Lease) {
	t.Helper()
	if x, ok := l.Get(want.Id); x != want || !ok {
		t.Fatalf("%s: Get(%d) is %+v, %v, not %+v", what, want.Id, x, ok, want)
	}
}

// lacks asks that Get tells no lease.
func lacks(t *testing.T, what string, l *lease.Table, id int) {
	t.Helper()
	if x, ok := l.Get(id); x != (lease.Lease{}) || ok {
		t.Fatalf("%s: Get(%d) is %+v, %v", what, id, x, ok)
	}
}

// table is one of these leases, opened in this order.
func table(t *testing.T, all ...lease.Lease) *lease.Table {
	t.Helper()
	l := lease.New()
	for _, x := range all {
		if e := l.Open(x.Id, x.Span, x.Last); e != api.OK {
			t.Fatalf("P10.1: Open(%d, %d, %d) is %d, of %d leases", x.Id, x.Span, x.Last, e, len(l.All()))
		}
	}
	return l
}

// refused asks that a lease is not opened, and that nothing is done.
func refused(t *testing.T, l *lease.Table, id, span, now int) {
	t.Helper()
	before := l.All()
	if e := l.Open(id, span, now); e != api.ErrArg {
		t.Fatalf("P10.1: Open(%d, %d, %d) is %d, of %d leases", id, span, now, e, len(before))
	}
	holds(t, "P10.1: behind a refused Open", l, before...)
}

// renewed asks what a Renew answers.
func renewed(t *testing.T, l *lease.Table, id, now int, want api.Errno) {
	t.Helper()
	before := l.All()
	if e := l.Renew(id, now); e != want {
		t.Fatalf("P10.1: Renew(%d, %d) is %d, not %d", id, now, e, want)
	}
	if want != api.OK {
		holds(t, "P10.1: behind a refused Renew", l, before...)
	}
}

// closed asks what a Close answers.
func closed(t *testing.T, l *lease.Table, id int, want api.Errno) {
	t.Helper()
	before := l.All()
	if e := l.Close(id); e != want {
		t.Fatalf("P10.1: Close(%d) is %d, not %d", id, e, want)
	}
	if want != api.OK {
		holds(t, "P10.1: behind a refused Close", l, before...)
	}
}

// ended asks who has ended, and that this changes nothing.
func ended(t *testing.T, l *lease.Table, now int, want ...int) {
	t.Helper()
	before := l.All()
	if e := l.Ended(now); !slices.Equal(e, want) {
		t.Fatalf("P10.2: Ended(%d) is %v, not %v, of %s", now, e, want, short(before))
	}
	holds(t, "P10.2: behind Ended", l, before...)
}

// many are so many leases, by rising ids.
func many(n int) []lease.Lease {
	var l []lease.Lease
	for k := range n {
		l = append(l, of(10+3*k, 1+k%7, k*k%50))
	}
	return l
}

func TestExamples(t *testing.T) {
	l := table(t, of(3, 10, 5))
	ended(t, l, 15)
	ended(t, l, 16, 3)
	renewed(t, l, 3, 16, api.OK)
	ended(t, l, 16)
	holds(t, "P10.1: the example", l, of(3, 10, 16))

	l = table(t, of(3, 10, 5))
	refused(t, l, 3, 10, 5)
	closed(t, l, 4, api.ErrLeaseNone)
	holds(t, "P10.1: the example", l, of(3, 10, 5))
}

func TestNew(t *testing.T) {
	l := lease.New()
	if l == nil {
		t.Fatal("P10.1: New is nil")
	}
	holds(t, "P10.1: New", l)
	ended(t, l, api.MaxClock)
	for _, id := range append(ids(), noIds()...) {
		lacks(t, "P10.1: New", l, id)
	}
	l.Open(1, 1, 0)
	holds(t, "P10.1: another New", lease.New())
}

func TestBoundsOfOpen(t *testing.T) {
	one := table(t, of(7, 7, 7))
	for _, l := range []*lease.Table{lease.New(), one} {
		for _, id := range noIds() {
			refused(t, l, id, 1, 0)
			refused(t, l, id, 0, -1)
		}
		for _, span := range noSpans() {
			refused(t, l, 1, span, 0)
			refused(t, l, 7, span, 7)
		}
		for _, now := range noTimes() {
			refused(t, l, 1, 1, now)
			refused(t, l, 7, 7, now)
		}
	}
	for _, id := range ids() {
		for _, span := range spans() {
			for _, now := range times() {
				holds(t, "P10.1: one lease", table(t, of(id, span, now)), of(id, span, now))
			}
		}
	}
	var all []lease.Lease
	for k, id := range ids() {
		all = append(all, of(id, spans()[k%len(spans())], times()[k%len(times())]))
	}
	holds(t, "P10.1: many ids", table(t, all...), all...)
}

func TestOpenOfAnIdThatIsThere(t *testing.T) {
	l := table(t, of(2, 5, 5), of(3, 10, 5), of(4, 5, 5))
	for _, span := range []int{10, 1, 9, 11, mostSpan} {
		for _, now := range []int{5, 0, 4, 6, api.MaxClock} {
			refused(t, l, 3, span, now)
		}
	}
	refused(t, l, 2, 10, 5)
	refused(t, l, 4, 10, 5)
	renewed(t, l, 3, 50, api.OK)
	refused(t, l, 3, 10, 5)
	holds(t, "P10.1: at last", l, of(2, 5, 5), of(3, 10, 50), of(4, 5, 5))
}

func TestRoom(t *testing.T) {
	all := many(most)
	l := table(t, all[:most-1]...)
	holds(t, "P10.1: 99", l, all[:most-1]...)
	if e := l.Open(all[most-1].Id, all[most-1].Span, all[most-1].Last); e != api.OK {
		t.Fatalf("P10.1: the 100th is %d", e)
	}
	holds(t, "P10.1: 100", l, all...)
	for _, id := range []int{1, 9, 11, 12, 500, mostId} {
		refused(t, l, id, 1, 0)
	}
	for _, x := range all { // what is there already is refused too
		refused(t, l, x.Id, x.Span, x.Last)
	}
	refused(t, l, all[0].Id, 5, 60)
	refused(t, l, 0, 0, -1)

	closed(t, l, all[40].Id, api.OK)
	refused(t, l, all[41].Id, 1, 0)
	if e := l.Open(1, 1, 0); e != api.OK {
		t.Fatalf("P10.1: in place of one that was closed: %d", e)
	}
	holds(t, "P10.1: 100 again", l, append([]lease.Lease{of(1, 1, 0)}, slices.Delete(slices.Clone(all), 40, 41)...)...)
	refused(t, l, all[40].Id, 1, 0)
}

// What has ended takes room till it is closed.
func TestRoomOfWhatHasEnded(t *testing.T) {
	all := many(most)
	l := table(t, all...)
	over := l.Ended(api.MaxClock)
	if len(over) != most {
		t.Fatalf("P10.2: %d have ended", len(over))
	}
	refused(t, l, 5, 1, api.MaxClock)
	refused(t, l, over[0], 1, api.MaxClock)
}

func TestAnIdThatWasClosed(t *testing.T) {
	l := table(t, of(3, 10, 50), of(5, 1, 1))
	closed(t, l, 3, api.OK)
	if e := l.Open(3, 7, 2); e != api.OK {
		t.Fatalf("P10.1: opened again: %d", e)
	}
	holds(t, "P10.1: opened again", l, of(3, 7, 2), of(5, 1, 1))
	ended(t, l, 9, 5)
	ended(t, l, 10, 3, 5)
	refused(t, l, 3, 7, 2)
	closed(t, l, 3, api.OK)
	closed(t, l, 3, api.ErrLeaseNone)
	holds(t, "P10.1: closed again", l, of(5, 1, 1))
}

func TestRenew(t *testing.T) {
	l := table(t, of(1, 4, 20), of(3, 10, 20), of(8, 6, 20))
	for _, step := range []struct{ now, last int }{{21, 21}, {21, 21}, {20, 21}, {0, 21}, {1000, 1000}, {999, 1000}, {1001, 1001}, {21, 1001}, {api.MaxClock - 1, api.MaxClock - 1}, {api.MaxClock, api.MaxClock}, {0, api.MaxClock}, {api.MaxClock, api.MaxClock}} {
		renewed(t, l, 3, step.now, api.OK)
		holds(t, fmt.Sprint("P10.1: renewed at ", step.now), l, of(1, 4, 20), of(3, 10, step.last), of(8, 6, 20))
	}
	renewed(t, l, 8, 22, api.OK)
	renewed(t, l, 1, 24, api.OK)
	holds(t, "P10.1: renewed", l, of(1, 4, 24), of(3, 10, api.MaxClock), of(8, 6, 22))
}

// One that has ended, but was not closed, can be renewed.
func TestRenewOfWhatHasEnded(t *testing.T) {
	l := table(t, of(3, 10, 0))
	ended(t, l, 500, 3)
	renewed(t, l, 3, 495, api.OK)
	ended(t, l, 500)
	ended(t, l, 505)
	ended(t, l, 506, 3)
}

func TestWrongRenews(t *testing.T) {
	l := table(t, of(3, 10, 5), of(9, 1, 0))
	for _, now := range noTimes() {
		renewed(t, l, 3, now, api.ErrArg)
		renewed(t, l, 9, now, api.ErrArg)
		for _, id := range append(noIds(), 1, 2, 4, 8, 10, mostId) {
			renewed(t, l, id, now, api.ErrArg) // ahead of ErrLeaseNone
		}
		if e := lease.New().Renew(1, now); e != api.ErrArg {
			t.Errorf("P10.1: Renew(1, %d) of no lease: %d", now, e)
		}
	}
	for _, now := range times() {
		for _, id := range append(noIds(), 1, 2, 4, 8, 10, 1<<32+3, mostId) {
			renewed(t, l, id, now, api.ErrLeaseNone)
		}
		if e := lease.New().Renew(1, now); e != api.ErrLeaseNone {
			t.Errorf("P10.1: Renew(1, %d) of no lease: %d", now, e)
		}
	}
	closed(t, l, 3, api.OK)
	renewed(t, l, 3, 6, api.ErrLeaseNone)
	renewed(t, l, 3, -1, api.ErrArg)
	holds(t, "P10.1: at last", l, of(9, 1, 0))
}

func TestClose(t *testing.T) {
	all := []lease.Lease{of(1, 1, 1), of(2, 2, 2), of(3, 3, 3), of(40, 4, 4), of(mostId, 5, 5)}
	for k, x := range all {
		l := table(t, all...)
		closed(t, l, x.Id, api.OK)
		holds(t, fmt.Sprint("P10.1: closed ", x.Id), l, slices.Delete(slices.Clone(all), k, k+1)...)
		closed(t, l, x.Id, api.ErrLeaseNone)
		ended(t, l, api.MaxClock, slices.DeleteFunc([]int{1, 2, 3, 40, mostId}, func(id int) bool { return id == x.Id })...)
	}
	l := table(t, all...)
	for _, id := range append(noIds(), 4, 39, 41, mostId-1, 1<<32+1) {
		closed(t, l, id, api.ErrLeaseNone)
	}
	for _, id := range []int{3, 1, mostId, 2, 40} {
		closed(t, l, id, api.OK)
	}
	holds(t, "P10.1: behind the last one", l)
	for _, id := range append(noIds(), ids()...) {
		closed(t, l, id, api.ErrLeaseNone)
	}
}

func TestGet(t *testing.T) {
	l := table(t, of(3, 10, 5))
	got(t, "P10.1: behind Open", l, of(3, 10, 5))
	for _, id := range append(noIds(), 1, 2, 4, 5, 10, 1<<32+3, mostId) {
		lacks(t, "P10.1: Get", l, id)
	}
	l.Renew(3, 4)
	got(t, "P10.1: behind an earlier Renew", l, of(3, 10, 5))
	l.Renew(3, 6)
	got(t, "P10.1: behind a later Renew", l, of(3, 10, 6))
	l.Open(3, 1, 1)
	l.Open(4, 0, 1)
	got(t, "P10.1: behind refused Opens", l, of(3, 10, 6))
	lacks(t, "P10.1: behind refused Opens", l, 4)
	l.Open(2, mostSpan, 0)
	got(t, "P10.1: behind another Open", l, of(3, 10, 6))
	got(t, "P10.1: behind Open", l, of(2, mostSpan, 0))
	l.Ended(100)
	got(t, "P10.1: behind Ended", l, of(3, 10, 6))
	l.Close(3)
	lacks(t, "P10.1: behind Close", l, 3)
	got(t, "P10.1: behind Close of another", l, of(2, mostSpan, 0))
}

func TestEndedByTheSpan(t *testing.T) {
	for _, span := range spans() {
		for _, last := range []int{0, 1, 5, 1000, api.MaxClock - mostSpan - 1} {
			l := table(t, of(3, span, last))
			for _, now := range []int{0, last - 1, last, last + 1, last + span - 1, last + span} {
				if now >= 0 && now <= last+span {
					ended(t, l, now)
				}
			}
			for _, now := range []int{last + span + 1, last + span + 2, last + 2*span + 1, api.MaxClock} {
				if now <= api.MaxClock {
					ended(t, l, now, 3)
				}
			}
			for _, now := range noTimes() {
				ended(t, l, now)
			}
		}
	}
	l := table(t, of(1, 1, api.MaxClock), of(2, 1, api.MaxClock-1), of(3, 1, api.MaxClock-2), of(4, mostSpan, api.MaxClock))
	ended(t, l, api.MaxClock, 3)
	ended(t, l, api.MaxClock+1)
	ended(t, l, 0)
}

func TestEndedOfMany(t *testing.T) {
	l := table(t, of(50, 10, 5), of(3, 10, 6), of(mostId, 1, 0), of(7, 20, 0), of(49, 1, 14), of(1, mostSpan, 0), of(200, 9, 6))
	ended(t, l, 1)
	ended(t, l, 2, mostId)
	ended(t, l, 15, mostId)
	ended(t, l, 16, 49, 50, 200, mostId)
	ended(t, l, 17, 3, 49, 50, 200, mostId)
	ended(t, l, 20, 3, 49, 50, 200, mostId)
	ended(t, l, 21, 3, 7, 49, 50, 200, mostId)
	ended(t, l, mostSpan, 3, 7, 49, 50, 200, mostId)
	ended(t, l, mostSpan+1, 1, 3, 7, 49, 50, 200, mostId)
	renewed(t, l, 50, 16, api.OK)
	closed(t, l, 200, api.OK)
	ended(t, l, 16, 49, mostId)
	ended(t, l, 27, 3, 7, 49, 50, mostId)
	for _, now := range noTimes() {
		ended(t, l, now)
	}
}

func TestAllIsByRisingIds(t *testing.T) {
	want := many(most)
	back := slices.Clone(want)
	slices.Reverse(back)
	holds(t, "P10.2: rising", table(t, want...), want...)
	holds(t, "P10.2: falling", table(t, back...), want...)
	for seed := range uint64(50) {
		holds(t, fmt.Sprint("P10.2: mixed by ", seed), table(t, mixed(dice(seed), want)...), want...)
	}
	holds(t, "P10.2: by number", table(t, of(10, 1, 1), of(9, 1, 1), of(100, 1, 1), of(mostId, 1, 1), of(1<<32, 1, 1), of(2, 1, 1)), of(2, 1, 1), of(9, 1, 1), of(10, 1, 1), of(100, 1, 1), of(1<<32, 1, 1), of(mostId, 1, 1))
}

func TestClone(t *testing.T) {
	first := []lease.Lease{of(1, 4, 20), of(3, 10, 20), of(8, 6, 20)}
	both := func(l, c *lease.Table) {
		holds(t, "P10.2: the first", l, first...)
		holds(t, "P10.2: the clone", c, first...)
	}
	do := []func(*lease.Table){
		func(l *lease.Table) { l.Open(2, 1, 1) },
		func(l *lease.Table) { l.Open(9, 1, 1) },
		func(l *lease.Table) { l.Renew(1, 21) },
		func(l *lease.Table) { l.Renew(8, 21) },
		func(l *lease.Table) { l.Close(1) },
		func(l *lease.Table) { l.Close(3) },
		func(l *lease.Table) { l.Close(8) },
	}
	for _, f := range do {
		l := table(t, first...)
		c := l.Clone()
		both(l, c)
		f(l)
		holds(t, "P10.2: the clone, behind a call of the first", c, first...)
		l = table(t, first...)
		c = l.Clone()
		f(c)
		holds(t, "P10.2: the first, behind a call of the clone", l, first...)
	}
	l := table(t, first...)
	c := l.Clone()
	l.Open(10, 1, 1)
	c.Open(11, 2, 2)
	l.Renew(3, 50)
	c.Renew(3, 40)
	holds(t, "P10.2: the first", l, of(1, 4, 20), of(3, 10, 50), of(8, 6, 20), of(10, 1, 1))
	holds(t, "P10.2: the clone", c, of(1, 4, 20), of(3, 10, 40), of(8, 6, 20), of(11, 2, 2))
}

func TestCloneOfNoLeaseAndOfAFullTable(t *testing.T) {
	l := lease.New()
	c := l.Clone()
	if c == nil {
		t.Fatal("P10.2: Clone is nil")
	}
	c.Open(1, 1, 1)
	holds(t, "P10.2: the first", l)
	holds(t, "P10.2: the clone", c, of(1, 1, 1))

	all := many(most)
	l = table(t, all...)
	c = l.Clone()
	refused(t, c, 1, 1, 1)
	closed(t, c, all[5].Id, api.OK)
	refused(t, l, 1, 1, 1)
	holds(t, "P10.2: the first", l, all...)
}

// loaded is the table that Load makes of a list.
func loaded(t *testing.T, all ...lease.Lease) *lease.Table {
	t.Helper()
	l, e := lease.Load(all)
	if l == nil || e != api.OK {
		t.Fatalf("P10.2: Load(%s) is %v, %d", short(all), l, e)
	}
	holds(t, "P10.2: Load", l, all...)
	return l
}

// notLoaded asks that of a list there is no table.
func notLoaded(t *testing.T, all ...lease.Lease) {
	t.Helper()
	if l, e := lease.Load(all); l != nil || e != api.ErrArg {
		t.Fatalf("P10.2: Load(%s) is %v, %d", short(all), l, e)
	}
}

func TestLoad(t *testing.T) {
	loaded(t)
	if l, e := lease.Load([]lease.Lease{}); l == nil || e != api.OK {
		t.Errorf("R3: of an empty list %v, %d", l, e)
	}
	loaded(t, of(1, 1, 0))
	loaded(t, of(1, 1, 0), of(2, 1, 0), of(3, 1, 0))
	loaded(t, of(1, mostSpan, api.MaxClock), of(mostId, 1, 0))
	for _, id := range ids() {
		for _, span := range spans() {
			for _, now := range times() {
				loaded(t, of(id, span, now))
			}
		}
	}
	l := loaded(t, of(3, 10, 5), of(4, 1, 1))
	refused(t, l, 3, 10, 5)
	ended(t, l, 15, 4)
	ended(t, l, 16, 3, 4)
	renewed(t, l, 3, 16, api.OK)
	closed(t, l, 4, api.OK)
	holds(t, "P10.2: behind Load", l, of(3, 10, 16))
}

func TestLoadOfAsManyAsThereMayBe(t *testing.T) {
	all := many(most + 2)
	loaded(t, all[:most-1]...)
	l := loaded(t, all[:most]...)
	refused(t, l, 1, 1, 1)
	notLoaded(t, all[:most+1]...)
	notLoaded(t, all...)
	notLoaded(t, many(10*most)...)
}

func TestLoadOfListsThatDoNotRise(t *testing.T) {
	notLoaded(t, of(2, 1, 1), of(1, 1, 1))
	notLoaded(t, of(1, 1, 1), of(1, 1, 1))
	notLoaded(t, of(1, 1, 1), of(1, 2, 3))
	notLoaded(t, of(mostId, 1, 1), of(mostId, 1, 1))
	notLoaded(t, of(1, 1, 1), of(2, 1, 1), of(2, 1, 1))
	notLoaded(t, of(1, 1, 1), of(1, 1, 1), of(2, 1, 1))
	notLoaded(t, of(1, 1, 1), of(3, 1, 1), of(2, 1, 1))
	notLoaded(t, of(2, 1, 1), of(1, 1, 1), of(3, 1, 1))
	notLoaded(t, of(1, 1, 1), of(2, 1, 1), of(1, 1, 1))
	notLoaded(t, of(1<<32, 1, 1), of(1<<31, 1, 1))
	all := many(most)
	for k := range most - 1 {
		twice, turned := slices.Clone(all), slices.Clone(all)
		twice[k].Id = twice[k+1].Id
		notLoaded(t, twice...)
		turned[k], turned[k+1] = turned[k+1], turned[k]
		notLoaded(t, turned...)
	}
}

func TestLoadOfWhatIsNoLease(t *testing.T) {
	var none []lease.Lease
	for _, id := range noIds() {
		none = append(none, of(id, 1, 0), of(id, 5, 5))
	}
	for _, span := range noSpans() {
		none = append(none, of(5, span, 0), of(mostId, span, 5))
	}
	for _, now := range noTimes() {
		none = append(none, of(5, 1, now), of(mostId, 5, now))
	}
	none = append(none, lease.Lease{})
	for _, x := range none {
		notLoaded(t, x)
		notLoaded(t, of(1, 1, 1), x)
		notLoaded(t, x, of(mostId, 1, 1))
		notLoaded(t, of(1, 1, 1), x, of(6, 1, 1))
		notLoaded(t, of(1, 1, 1), of(2, 1, 1), x)
	}
}

func TestWhatIsGivenStays(t *testing.T) {
	all := many(most)
	given := slices.Clone(all)
	l := loaded(t, given...)
	l.Renew(given[3].Id, 1000)
	l.Close(given[4].Id)
	l.Open(1, 1, 1)
	if !slices.Equal(given, all) {
		t.Errorf("R5: what was loaded became %s", short(given))
	}
	given = given[:5] // what stands behind a list is left alone too
	l = loaded(t, given...)
	l.Open(mostId, 1, 1)
	if !slices.Equal(given[:most], all) {
		t.Errorf("R5: behind what was loaded stands %s", short(given[:most]))
	}
	wrong := []lease.Lease{of(2, 1, 1), of(1, 1, 1), {}}
	lease.Load(wrong)
	if !slices.Equal(wrong, []lease.Lease{of(2, 1, 1), of(1, 1, 1), {}}) {
		t.Errorf("R5: what was refused became %s", short(wrong))
	}
}

func TestWhatIsToldIsTheCallersOwn(t *testing.T) {
	all := many(20)
	given := slices.Clone(all)
	l := loaded(t, given...)
	clear(given)
	holds(t, "R6: what was loaded was written into", l, all...)

	told := l.All()
	clear(told)
	holds(t, "R6: what All told was written into", l, all...)
	_ = append(l.All()[:3], of(1, 1, 1), of(2, 1, 1))
	holds(t, "R6: what All told was laid on", l, all...)

	kept, over := l.All(), l.Ended(1000)
	want := slices.Clone(over)
	l.Renew(all[0].Id, 5000)
	l.Close(all[1].Id)
	l.Open(1, 1, 1)
	if !slices.Equal(kept, all) {
		t.Errorf("R6: what All told became %s", short(kept))
	}
	if !slices.Equal(over, want) {
		t.Errorf("R6: what Ended told became %s", short(over))
	}
	now := l.Ended(1000)
	again := slices.Clone(now)
	clear(now)
	ended(t, l, 1000, again...)

	x, _ := l.Get(all[2].Id)
	x.Last = 77777
	got(t, "R6: what Get told was written into", l, all[2])
}
