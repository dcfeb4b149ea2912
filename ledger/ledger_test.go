package ledger_test

import (
	"fmt"
	"math"
	"slices"
	"strings"
	"testing"

	"harpsichord/api"
	"harpsichord/ledger"
	"harpsichord/platter"
)

// show is a list as a line that can be read, however long it is.
func show(l []string) string {
	s := fmt.Sprintf("%d records %q", len(l), l)
	return s[:min(len(s), 200)]
}

// noise is a text of n bytes, another one for each seed, and the same one at each call.
func noise(seed, n int) string {
	b := make([]byte, n)
	state := uint32(seed)*2654435761 + 1
	for k := range b {
		state = state*1664525 + 1013904223
		b[k] = byte(state >> 24)
	}
	return string(b)
}

// rows are many records of n bytes each.
func rows(many, n int) []string {
	var l []string
	for k := range many {
		l = append(l, noise(k, n))
	}
	return l
}

// need is how many bytes records have by the document's words.
func need(all []string) int {
	n := 0
	for _, s := range all {
		n += len(s) + 4
	}
	return n
}

// leastRoom is what Room is at least, and -1 where none can be appended.
func leastRoom(many int, all []string) int {
	return max(-1, min(api.MaxRecord, 32*(many-2)-132-need(all)))
}

func open(t *testing.T, d *platter.Disk, from, many int) *ledger.Ledger {
	t.Helper()
	l, e := ledger.Open(d, from, many)
	if e != api.OK || l == nil {
		t.Fatalf("P5.1: Open(%d, %d) is %d", from, many, e)
	}
	return l
}

func add(t *testing.T, l *ledger.Ledger, all ...string) {
	t.Helper()
	for _, s := range all {
		if e := l.Append(s); e != api.OK {
			t.Fatalf("P5.2: Append of %d bytes is %d", len(s), e)
		}
	}
}

func sync(t *testing.T, l *ledger.Ledger) {
	t.Helper()
	if e := l.Sync(); e != api.OK {
		t.Fatalf("P5.3: Sync is %d", e)
	}
}

func replace(t *testing.T, l *ledger.Ledger, all ...string) {
	t.Helper()
	if e := l.Replace(all); e != api.OK {
		t.Fatalf("P5.3: Replace of %s is %d", show(all), e)
	}
}

// holds asks for just these records.
func holds(t *testing.T, what string, l *ledger.Ledger, want ...string) {
	t.Helper()
	if all := l.All(); !slices.Equal(all, want) || l.Len() != len(want) {
		t.Fatalf("%s: %s, Len %d, not %s", what, show(all), l.Len(), show(want))
	}
}

// lasting asks that these records are found of what lasts on the disk, whatever else of what waits is there.
func lasting(t *testing.T, what string, d *platter.Disk, from, many int, want ...string) {
	t.Helper()
	for keep := range d.Pending() + 1 {
		for _, tear := range []int{0, 1, 9, 33, 63} {
			holds(t, what, open(t, d.Crash(keep, tear), from, many), want...)
		}
	}
}

// sectors are all that a disk has, as they were written last; of a dead one, too.
func sectors(d *platter.Disk) []string {
	c := d.Crash(math.MaxInt, 0)
	var l []string
	for n := range c.Many() {
		b, _ := c.Read(n)
		l = append(l, string(b))
	}
	return l
}

// full is a disk of which each sector has noise, and nothing waits.
func full(many int) *platter.Disk {
	d := platter.New(many)
	for n := range many {
		d.Write(n, []byte(noise(1000+n, api.Sector)))
	}
	d.Sync()
	return d
}

// blank lets a place have nothing on it.
func blank(d *platter.Disk, from, many int) *platter.Disk {
	for n := range many {
		d.Write(from+n, nil)
	}
	d.Sync()
	return d
}

// died is a disk with a ledger on it whose records last, and that died behind that.
func died(t *testing.T, many int, all ...string) (*platter.Disk, *ledger.Ledger) {
	t.Helper()
	d := platter.New(many)
	l := open(t, d, 0, many)
	replace(t, l, all...)
	d.Arm(1)
	if e := l.Sync(); e != api.ErrPlatterDead || !d.Dead() {
		t.Fatalf("P5.3: Sync on a disk that dies is %d", e)
	}
	return d, l
}

func TestExamples(t *testing.T) {
	l := open(t, platter.New(8), 0, 8)
	add(t, l, "a", "b")
	sync(t, l)
	holds(t, "P5.2: Append(a), Append(b), Sync", l, "a", "b")
	replace(t, l, "c")
	holds(t, "P5.3: Replace(c)", l, "c")
	if e := l.Append(noise(1, 200)); e != api.ErrLedgerFull {
		t.Errorf("P5.2: Append of 200 bytes is %d", e)
	}
	holds(t, "P5.2: behind it", l, "c")
}

func TestOpenRefuses(t *testing.T) {
	for _, c := range []struct{ disk, from, many int }{
		{20, -1, 8}, {20, -1, 4}, {20, -8, 8}, {20, math.MinInt, 8}, {20, math.MinInt32, 8}, {20, math.MinInt, math.MaxInt},
		{20, 0, 3}, {20, 0, 2}, {20, 0, 1}, {20, 0, 0}, {20, 5, -1}, {20, 5, -4}, {20, 0, math.MinInt}, {20, 20, 0}, {20, 20, math.MinInt}, {20, math.MaxInt, math.MinInt},
		{20, 0, 21}, {20, 1, 20}, {20, 13, 8}, {20, 16, 5}, {20, 17, 4}, {20, 20, 4}, {20, 21, 4}, {20, 100, 8},
		{20, 0, math.MaxInt}, {20, 1, math.MaxInt}, {20, 2, math.MaxInt}, {20, math.MaxInt, 4}, {20, math.MaxInt, 8}, {20, math.MaxInt - 3, 4}, {20, math.MaxInt, math.MaxInt}, {20, math.MaxInt32, math.MaxInt32}, {20, 1 << 62, 1 << 62},
		{0, 0, 4}, {0, 0, 0}, {3, 0, 4}, {3, -1, 4}, {3, 0, 3}, {-5, 0, 4}, {1 << 16, 0, 1<<16 + 1}, {1 << 16, 1<<16 - 3, 4},
	} {
		d := platter.New(c.disk)
		if l, e := ledger.Open(d, c.from, c.many); l != nil || e != api.ErrLedgerForm {
			t.Errorf("P5.1: of %d sectors: Open(%d, %d) is %v, %d", c.disk, c.from, c.many, l != nil, e)
		}
		d.Arm(1)
		d.Sync()
		if l, e := ledger.Open(d, c.from, c.many); l != nil || e != api.ErrPlatterDead {
			t.Errorf("P5.1: of a dead disk: Open(%d, %d) is %v, %d", c.from, c.many, l != nil, e)
		}
	}
}

func TestOpenOfADeadDisk(t *testing.T) {
	d, _ := died(t, 8, "ab")
	if l, e := ledger.Open(d, 0, 8); l != nil || e != api.ErrPlatterDead {
		t.Errorf("P5.1: Open on a dead disk is %v, %d", l != nil, e)
	}
	holds(t, "P5.4: Open on its crash", open(t, d.Crash(0, 0), 0, 8), "ab")
}

func TestOpenWhereNothingWas(t *testing.T) {
	for _, c := range []struct{ disk, from, many int }{
		{4, 0, 4}, {5, 0, 5}, {5, 1, 4}, {8, 0, 8}, {20, 0, 4}, {20, 16, 4}, {20, 0, 20}, {20, 12, 8}, {20, 3, 7}, {1 << 16, 0, 1 << 16}, {1 << 16, 1<<16 - 4, 4},
	} {
		l := open(t, platter.New(c.disk), c.from, c.many)
		holds(t, "P5.1: where nothing was", l)
		if c.disk <= 20 {
			l = open(t, blank(full(c.disk), c.from, c.many), c.from, c.many)
			holds(t, "P5.1: where nothing was, beside other things", l)
		}
	}
}

func TestOpenTwice(t *testing.T) {
	d := platter.New(9)
	for k, want := range [][]string{nil, {"a"}, {"a", ""}, {"a", "", noise(1, 50)}} {
		l := open(t, d, 0, 9)
		if k > 0 {
			add(t, l, want[k-1])
			sync(t, l)
		}
		holds(t, "P5.3: the ledger itself", l, want...)
		for range 3 {
			holds(t, "P5.1: Open again", open(t, d, 0, 9), want...)
		}
	}
}

func TestOpenWritesNothing(t *testing.T) {
	d := full(30)
	blank(d, 10, 12)
	replace(t, open(t, d, 10, 12), "a", "b")
	d.Write(0, []byte("waits"))
	before := sectors(d)
	d.Arm(1)
	for _, c := range [][2]int{{10, 12}, {10, 12}, {-1, 8}, {10, 3}, {28, 4}, {0, 8}, {22, 8}, {9, 12}, {11, 12}} {
		ledger.Open(d, c[0], c[1])
		if d.Pending() != 1 || d.Dead() || !slices.Equal(sectors(d), before) {
			t.Errorf("P5.1: behind Open(%d, %d): Pending %d, Dead %v, or other bytes", c[0], c[1], d.Pending(), d.Dead())
		}
	}
	if e := d.Sync(); e != api.ErrPlatterDead {
		t.Errorf("P5.1: Open counted as a Write or a Sync: Sync is %d", e)
	}
}

func TestOpenKeepsTheDisk(t *testing.T) {
	d := platter.New(8)
	other := d.Crash(0, 0)
	l := open(t, d, 0, 8)
	add(t, l, "a")
	sync(t, l)
	lasting(t, "P5.1: on the disk itself", d, 0, 8, "a")
	holds(t, "P5.1: on another disk", open(t, other, 0, 8))
	d.Arm(1)
	if e := l.Sync(); e != api.ErrPlatterDead || !d.Dead() {
		t.Errorf("P5.1: Sync is %d, Dead %v: not the disk itself", e, d.Dead())
	}
}

// used asks that what Open told of something else can be used as any ledger.
func used(t *testing.T, what string, d *platter.Disk, from, many int) {
	t.Helper()
	d.Sync()
	l, e := ledger.Open(d, from, many)
	if e != api.OK {
		if e != api.ErrLedgerForm || l != nil {
			t.Errorf("P5.1: %s: Open is %v, %d", what, l != nil, e)
		}
		return
	}
	all := l.All()
	for _, s := range all {
		if len(s) > api.MaxRecord {
			t.Errorf("P5.1: %s: a record of %d bytes", what, len(s))
		}
	}
	if need(all) > many*api.Sector || l.Len() != len(all) || l.Room() < leastRoom(many, all) {
		t.Errorf("P5.1: %s: %s, Len %d, Room %d", what, show(all), l.Len(), l.Room())
	}
	if l.Room() >= 1 {
		add(t, l, "x")
		sync(t, l)
		all = append(all, "x")
	}
	holds(t, what, open(t, d, from, many), all...)
	l = open(t, d.Crash(0, 0), from, many)
	holds(t, what, l, all...)
	if e := l.Replace([]string{"y", ""}); e != api.OK && many > 6 {
		t.Errorf("P5.3: %s: Replace is %d", what, e)
	}
}

func TestOpenOfSomethingElse(t *testing.T) {
	for seed := range 50 {
		d := platter.New(12)
		for n := range 12 {
			d.Write(n, []byte(noise(100*seed+n, seed*3%65)))
		}
		used(t, "noise", d, 0, 12)
		used(t, "noise", d, 5, 4)
	}
	for x := range 256 {
		d := platter.New(12)
		for n := range 12 {
			d.Write(n, []byte(strings.Repeat(string([]byte{byte(x)}), api.Sector)))
		}
		used(t, "one byte all over", d, 0, 12)
		used(t, "one byte all over", d, 1, 5)
	}
}

// written are disks with a ledger on them, of which each state of the ledger's own sectors may be looked for.
func written(t *testing.T) []*platter.Disk {
	t.Helper()
	var l []*platter.Disk
	for k := range 4 {
		d := platter.New(10)
		b := open(t, d, 0, 10)
		for range k {
			replace(t, b, noise(k, 30), "", noise(k, 60))
			add(t, b, "ab")
			sync(t, b)
		}
		l = append(l, d)
	}
	return l
}

func TestOpenOfALedgerThatWasWrittenOn(t *testing.T) {
	for _, whole := range written(t) {
		for n, s := range sectors(whole) {
			for at := range 8 * api.Sector {
				b := []byte(s)
				b[at/8] ^= 1 << (at % 8)
				d := whole.Crash(0, 0)
				d.Write(n, b)
				used(t, fmt.Sprintf("bit %d of sector %d", at, n), d, 0, 10)
			}
			for m := range 10 {
				d := whole.Crash(0, 0)
				d.Write(m, []byte(s))
				used(t, fmt.Sprintf("sector %d on sector %d", n, m), d, 0, 10)
				d.Write(m, []byte(noise(n, api.Sector)))
				d.Write(n, nil)
				used(t, fmt.Sprintf("noise on sector %d, none on %d", m, n), d, 0, 10)
			}
		}
		for from := range 7 {
			for many := 4; from+many <= 10; many++ {
				used(t, fmt.Sprintf("Open(%d, %d)", from, many), whole.Crash(0, 0), from, many)
			}
		}
	}
}

// Where lengths of records are turned, here and there, none comes out that could not have been appended.
func TestOpenOfALedgerWhoseLengthsWereTurned(t *testing.T) {
	d := platter.New(500)
	replace(t, open(t, d, 0, 500), append([]string{"a"}, rows(100, 60)...)...)
	for n, s := range sectors(d) {
		if n%7 > 1 || s == strings.Repeat("\x00", api.Sector) {
			continue
		}
		for at := range 8 * api.Sector {
			b := []byte(s)
			b[at/8] ^= 1 << (at % 8)
			c := d.Crash(0, 0)
			c.Write(n, b)
			used(t, fmt.Sprintf("bit %d of sector %d", at, n), c, 0, 500)
		}
	}
}

func TestSectorsOutsideStayAsTheyWere(t *testing.T) {
	for many := 4; many < 14; many++ {
		const from = 5
		d := blank(full(24), from, many)
		before := sectors(d)
		outside := func(what string) {
			t.Helper()
			after := sectors(d)
			if !slices.Equal(after[:from], before[:from]) || !slices.Equal(after[from+many:], before[from+many:]) {
				t.Fatalf("P5.1: %s: of %d sectors: a sector outside is other now", what, many)
			}
		}
		l := open(t, d, from, many)
		for round := range 6 {
			for l.Append(noise(round, 9)) == api.OK {
				outside("Append")
			}
			l.Append(noise(round, l.Room()+1))
			l.Sync()
			outside("Sync")
			for n := 20 * many; l.Replace([]string{noise(round, n)}) != api.OK && n > 0; n-- {
				outside("a Replace that is refused")
			}
			outside("Replace")
			l = open(t, d, from, many)
			outside("Open")
		}
		d.Arm(2)
		l.Replace(nil)
		l.Sync()
		outside("a Replace that is cut off")
		d = d.Crash(1, 9)
		open(t, d, from, many).Sync()
		outside("a crash")
	}
}

func TestLedgersBesideEachOther(t *testing.T) {
	d := platter.New(22)
	l, m := open(t, d, 0, 9), open(t, d, 9, 13)
	var ls, ms []string
	for k := range 7 {
		add(t, l, noise(k, 10))
		add(t, m, noise(-k, 20))
		if k%2 == 0 {
			sync(t, l)
			ls = slices.Clone(l.All())
		} else {
			replace(t, m, m.All()[k/2:]...)
			ms = slices.Clone(m.All())
		}
		lasting(t, "P5.3: one ledger", d, 0, 9, ls...)
		lasting(t, "P5.3: one beside it", d, 9, 13, ms...)
	}
}

func TestAppend(t *testing.T) {
	l := open(t, platter.New(100), 0, 100)
	var want []string
	for _, s := range []string{"", "a", "", "\x00", "\x00\x00\x00\x00", "ab", "\xff\xff\xff\xff", noise(1, 59), noise(2, 60), noise(3, 61), noise(4, 255), noise(5, 256), noise(6, 257), "", noise(7, 1024)} {
		add(t, l, s)
		want = append(want, s)
		holds(t, "P5.2: Append", l, want...)
	}
	sync(t, l)
	holds(t, "P5.2: Append, Sync", l, want...)
}

// exact asks that Room is just what can be appended, by trying it on ledgers on which the same stands; it is told what to do to get one.
func exact(t *testing.T, what string, get func() *ledger.Ledger) {
	t.Helper()
	l := get()
	room, all := l.Room(), l.All()
	if room < -1 || room > api.MaxRecord {
		t.Fatalf("P5.2: %s: Room is %d", what, room)
	}
	full := api.ErrLedgerFull
	if room == api.MaxRecord {
		full = api.ErrLedgerLong
	}
	for range 2 {
		if e := l.Append(noise(1, room+1)); e != full || l.Room() != room {
			t.Fatalf("P5.2: %s: Append of Room() + 1 (%d) bytes is %d, not %d; Room is %d", what, room+1, e, full, l.Room())
		}
		holds(t, what, l, all...)
	}
	for _, n := range []int{room, room - 1, room / 2, 1, 0} {
		if n < 0 || n > room {
			continue
		}
		m, s := get(), noise(2, n)
		add(t, m, s)
		holds(t, what, m, append(slices.Clone(all), s)...)
		sync(t, m)
		holds(t, what, m, append(slices.Clone(all), s)...)
	}
}

func TestRoom(t *testing.T) {
	for _, many := range []int{4, 5, 6, 7, 8, 9, 10, 11, 12, 13, 20, 33, 64, 133, 134, 135, 136, 137, 300} {
		for _, all := range [][]string{nil, {""}, {"a"}, {"", "", ""}, {noise(1, 20)}, rows(8, 0), rows(6, 3), {noise(1, 60)}, {noise(1, 64), "b"}, rows(40, 40), {noise(1, 4000)}, rows(2, api.MaxRecord)} {
			if need(all) > 32*(many-2)-128 {
				continue
			}
			room := -2
			for _, get := range []func() *ledger.Ledger{
				func() *ledger.Ledger { l := open(t, platter.New(many), 0, many); add(t, l, all...); return l },
				func() *ledger.Ledger { l := open(t, platter.New(many), 0, many); replace(t, l, all...); return l },
				func() *ledger.Ledger {
					l := open(t, platter.New(many), 0, many)
					replace(t, l, "other")
					add(t, l, "", "x")
					replace(t, l, all...)
					return l
				},
				func() *ledger.Ledger {
					d := platter.New(many)
					l := open(t, d, 0, many)
					add(t, l, all...)
					sync(t, l)
					return open(t, d, 0, many)
				},
			} {
				if get().Room() < leastRoom(many, all) || room != -2 && get().Room() != room {
					t.Errorf("P5.2: of %d sectors with %s: Room is %d, not %d at least", many, show(all), get().Room(), leastRoom(many, all))
				}
				room = get().Room()
				exact(t, fmt.Sprintf("of %d sectors with %s", many, show(all)), get)
			}
		}
	}
}

// Room is asked for behind each of very many records, till none can be appended any more.
func TestRoomOfManyRecords(t *testing.T) {
	for many := 4; many < 40; many++ {
		for _, n := range []int{0, 1, 2, 3, 5, 60, 64} {
			d := platter.New(many)
			l := open(t, d, 0, many)
			var all []string
			for l.Room() >= n {
				s := noise(len(all), n)
				add(t, l, s)
				all = append(all, s)
				if l.Room() < leastRoom(many, all) {
					t.Fatalf("P5.2: of %d sectors: behind %d of %d bytes Room is %d", many, len(all), n, l.Room())
				}
				if len(all)%3 == 0 {
					sync(t, l)
				}
			}
			if e := l.Append(noise(1, n)); e != api.ErrLedgerFull {
				t.Fatalf("P5.2: Append where Room is below %d is %d", n, e)
			}
			for l.Room() >= 0 {
				add(t, l, "")
				all = append(all, "")
			}
			if l.Room() != -1 || l.Append("") != api.ErrLedgerFull {
				t.Errorf("P5.2: Room is %d, and yet no record can be appended, or one can", l.Room())
			}
			holds(t, "P5.2: a full ledger", l, all...)
			sync(t, l)
			lasting(t, "P5.3: a full ledger", d, 0, many, all...)
			replace(t, l, all...)
			lasting(t, "P5.3: a full ledger, replaced", d, 0, many, all...)
			holds(t, "P5.3: a full ledger, replaced", l, all...)
		}
	}
}

func TestLongRecords(t *testing.T) {
	d := platter.New(600)
	l := open(t, d, 0, 600)
	if l.Room() != api.MaxRecord {
		t.Fatalf("P5.2: Room is %d", l.Room())
	}
	add(t, l, noise(1, api.MaxRecord), "")
	for _, n := range []int{api.MaxRecord + 1, api.MaxRecord + 2, 1 << 16, 1 << 20} {
		if e := l.Append(noise(2, n)); e != api.ErrLedgerLong {
			t.Errorf("P5.2: Append of %d bytes is %d", n, e)
		}
		if e := l.Replace([]string{"a", noise(2, n), "b"}); e != api.ErrLedgerLong {
			t.Errorf("P5.3: Replace with %d bytes is %d", n, e)
		}
	}
	add(t, l, noise(3, api.MaxRecord-1))
	sync(t, l)
	want := []string{noise(1, api.MaxRecord), "", noise(3, api.MaxRecord-1)}
	holds(t, "P5.2: long records", l, want...)
	lasting(t, "P5.3: long records", d, 0, 600, want...)
	slices.Reverse(want)
	replace(t, l, want...)
	lasting(t, "P5.3: long records, replaced", d, 0, 600, want...)
}

// A whole disk, of which some sums have more than 16 bits: bytes, records, sectors.
func TestVeryManyRecords(t *testing.T) {
	const many = 1 << 16
	d := platter.New(many)
	l := open(t, d, 0, many)
	for _, all := range [][]string{rows(500, api.MaxRecord), rows(500000, 0), rows(30000, 60), {"a"}} {
		for range 2 {
			replace(t, l, all...)
			holds(t, "P5.3: very many records", l, all...)
			holds(t, "P5.3: very many records, opened", open(t, d.Crash(0, 0), 0, many), all...)
		}
		for k := range 3 {
			add(t, l, noise(k, 99))
			all = append(all, noise(k, 99))
			if l.Room() < leastRoom(many, all) {
				t.Errorf("P5.2: behind %d bytes Room is %d", need(all), l.Room())
			}
		}
		sync(t, l)
		holds(t, "P5.2: very many records, and some behind", open(t, d.Crash(0, 0), 0, many), all...)
	}
}

// What is too long is told ahead of what there is no room for.
func TestLongIsToldFirst(t *testing.T) {
	l := open(t, platter.New(8), 0, 8)
	for l.Append("") == api.OK {
	}
	long := noise(1, api.MaxRecord+1)
	if e := l.Append(long); e != api.ErrLedgerLong {
		t.Errorf("P5.2: Append of what is too long, without room, is %d", e)
	}
	if e := l.Append(long[1:]); e != api.ErrLedgerFull {
		t.Errorf("P5.2: Append of MaxRecord bytes without room is %d", e)
	}
	for at := range 5 {
		all := rows(5, api.MaxRecord)
		if e := l.Replace(all); e != api.ErrLedgerFull {
			t.Errorf("P5.3: Replace without room is %d", e)
		}
		all[at] = long
		if e := l.Replace(all); e != api.ErrLedgerLong {
			t.Errorf("P5.3: Replace with what is too long at %d, without room, is %d", at, e)
		}
	}
}

// A refused call is not to be seen in anything that is told, and it writes nothing.
func TestWhatIsRefusedChangesNothing(t *testing.T) {
	d := platter.New(8)
	l := open(t, d, 0, 8)
	add(t, l, "a")
	sync(t, l)
	add(t, l, "b")
	room, before := l.Room(), sectors(d)
	d.Arm(1)
	for _, e := range []api.Errno{
		l.Append(noise(1, api.MaxRecord+1)) - api.ErrLedgerLong,
		l.Append(noise(1, room+1)) - api.ErrLedgerFull,
		l.Replace([]string{"x", noise(1, api.MaxRecord+1)}) - api.ErrLedgerLong,
		l.Replace([]string{"x", noise(1, 400), noise(2, 400)}) - api.ErrLedgerFull,
		l.Replace(rows(1000, 0)) - api.ErrLedgerFull,
	} {
		if e != api.OK || d.Dead() || d.Pending() != 0 || l.Room() != room || !slices.Equal(sectors(d), before) {
			t.Errorf("P5.2: a refused call is off by %d, or it did something: Dead %v, Pending %d, Room %d", e, d.Dead(), d.Pending(), l.Room())
		}
		holds(t, "P5.2: behind a refused call", l, "a", "b")
		lasting(t, "P5.2: behind a refused call", d, 0, 8, "a")
	}
	d.Arm(0)
	sync(t, l)
	lasting(t, "P5.3: behind refused calls", d, 0, 8, "a", "b")
}

// dead asks that all that write say so, whatever else is amiss, and that the rest is told as ahead of it.
func dead(t *testing.T, what string, l *ledger.Ledger, room int, want ...string) {
	t.Helper()
	for range 2 {
		for _, n := range []int{0, 1, 60, 500, api.MaxRecord, api.MaxRecord + 1, 1 << 16} {
			if e := l.Append(noise(1, n)); e != api.ErrPlatterDead {
				t.Errorf("P5.2: %s: Append of %d bytes is %d", what, n, e)
			}
			if e := l.Replace([]string{"a", noise(1, n)}); e != api.ErrPlatterDead {
				t.Errorf("P5.2: %s: Replace with %d bytes is %d", what, n, e)
			}
		}
		if e := l.Sync(); e != api.ErrPlatterDead {
			t.Errorf("P5.2: %s: Sync is %d", what, e)
		}
		if e := l.Replace(nil); e != api.ErrPlatterDead {
			t.Errorf("P5.2: %s: Replace of none is %d", what, e)
		}
		holds(t, what, l, want...)
		if l.Room() != room {
			t.Errorf("R2: %s: Room is %d, not %d", what, l.Room(), room)
		}
	}
}

func TestDeadIsToldByAllThatWrite(t *testing.T) {
	for name, call := range map[string]func(*platter.Disk, *ledger.Ledger) api.Errno{
		"Sync":                 func(d *platter.Disk, l *ledger.Ledger) api.Errno { return l.Sync() },
		"Replace":              func(d *platter.Disk, l *ledger.Ledger) api.Errno { return l.Replace([]string{"c"}) },
		"Replace of none":      func(d *platter.Disk, l *ledger.Ledger) api.Errno { return l.Replace(nil) },
		"somebody else's Sync": func(d *platter.Disk, l *ledger.Ledger) api.Errno { return d.Sync() },
		"somebody else's Write": func(d *platter.Disk, l *ledger.Ledger) api.Errno {
			return d.Write(11, []byte("x"))
		},
	} {
		for k := 1; ; k++ {
			d := platter.New(12)
			l := open(t, d, 0, 10)
			add(t, l, "a")
			sync(t, l)
			add(t, l, "b")
			room := l.Room()
			d.Arm(k)
			e := call(d, l)
			if e == api.OK && !d.Dead() && k > 1 {
				break
			}
			if e != api.ErrPlatterDead || !d.Dead() {
				t.Fatalf("P5.2: %s: step %d: %d, Dead %v", name, k, e, d.Dead())
			}
			dead(t, name, l, room, "a", "b")
		}
	}
}

func TestSync(t *testing.T) {
	d := platter.New(12)
	l := open(t, d, 0, 12)
	var last []string
	for k := range 12 {
		for n := range k % 4 {
			add(t, l, noise(k, 2*n))
			lasting(t, "P5.4: what was not synced", d, 0, 12, last...)
		}
		for range 2 {
			sync(t, l)
			last = l.All()
			lasting(t, "P5.3: Sync", d, 0, 12, last...)
		}
		if k%3 == 0 {
			l = open(t, d, 0, 12)
			holds(t, "P5.3: Sync, Open", l, last...)
		}
	}
}

func TestReplace(t *testing.T) {
	d := platter.New(300)
	l := open(t, d, 0, 300)
	for _, all := range [][]string{
		nil, {"a"}, {"a"}, {"a", "b"}, {"b"}, {}, {}, {""}, {"", "", ""}, {noise(1, api.MaxRecord)}, {noise(1, api.MaxRecord), "", noise(2, api.MaxRecord)}, {noise(2, api.MaxRecord)},
		rows(100, 1), rows(99, 1), rows(101, 1), rows(1000, 0), {"c"}, nil,
	} {
		for k := range 3 {
			replace(t, l, all...)
			holds(t, "P5.3: Replace", l, all...)
			lasting(t, "P5.3: Replace", d, 0, 300, all...)
			if k == 1 {
				add(t, l, "late")
				holds(t, "P5.2: behind Replace", l, append(slices.Clone(all), "late")...)
				lasting(t, "P5.4: behind Replace", d, 0, 300, all...)
			}
		}
		add(t, l, "late")
		sync(t, l)
		lasting(t, "P5.3: Sync behind Replace", d, 0, 300, append(slices.Clone(all), "late")...)
		l = open(t, d, 0, 300)
		holds(t, "P5.3: Replace, Append, Sync, Open", l, append(slices.Clone(all), "late")...)
	}
}

// ofNeed are records, the last one of n bytes or more, that need as many bytes as is said.
func ofNeed(bytes, n int) []string {
	var all []string
	for bytes-need(all) >= 2*(n+4) {
		all = append(all, noise(len(all), n))
	}
	return append(all, noise(1, bytes-need(all)-4))
}

func TestReplaceOfAsMuchAsThereIsRoomFor(t *testing.T) {
	for many := 6; many < 40; many++ {
		d := platter.New(many)
		l := open(t, d, 0, many)
		replace(t, l, "old", "")
		for _, n := range []int{0, 1, 7, 60, 64} {
			most := 0
			for bytes := n + 4; bytes < 64*many; bytes++ {
				all := ofNeed(bytes, n)
				e := l.Replace(all)
				if e != api.OK {
					if e != api.ErrLedgerFull {
						t.Fatalf("P5.3: of %d sectors: Replace of %d bytes is %d", many, bytes, e)
					}
					break
				}
				most = bytes
				holds(t, "P5.3: Replace", l, all...)
			}
			if most < 32*(many-2)-128 && n+4 <= 32*(many-2)-128 {
				t.Errorf("P5.3: of %d sectors: no more than %d bytes can be put there", many, most)
			}
			if most == 0 {
				continue
			}
			holds(t, "P5.3: behind a Replace that was refused", l, ofNeed(most, n)...)
			lasting(t, "P5.3: behind a Replace that was refused", d, 0, many, ofNeed(most, n)...)
			if e := l.Replace(ofNeed(most+1, n)); e != api.ErrLedgerFull {
				t.Errorf("P5.3: of %d sectors: Replace of one byte too many is %d", many, e)
			}
			replace(t, l, ofNeed(most, n)...)
		}
	}
}

func TestListsHaveMemoryOfTheirOwn(t *testing.T) {
	d := platter.New(8)
	l := open(t, d, 0, 8)
	given := []string{"a", "b", "c"}
	replace(t, l, given...)
	room := given[:2]
	if e := l.Replace(room); e != api.OK || !slices.Equal(given, []string{"a", "b", "c"}) {
		t.Errorf("R5: Replace changes what it is given, or behind it: %q", given)
	}
	given[0], given[1] = "x", "y"
	holds(t, "R6: behind a write into what was given", l, "a", "b")
	first, second := l.All(), l.All()
	first[0] = "x"
	first = append(first[:1], "y", "z")
	holds(t, "R6: behind a write into what was told", l, "a", "b")
	if !slices.Equal(second, []string{"a", "b"}) {
		t.Errorf("R6: two lists share memory: %q", second)
	}
	add(t, l, "c")
	if !slices.Equal(second, []string{"a", "b"}) || !slices.Equal(first, []string{"x", "y", "z"}) {
		t.Errorf("R6: Append writes into what was told: %q, %q", first, second)
	}
	sync(t, l)
	lasting(t, "R6: what lasts", d, 0, 8, "a", "b", "c")
}

// crash goes through all ways in which what waits may be found.
func crash(d *platter.Disk, see func(keep, tear int, c *platter.Disk)) {
	for keep := range d.Pending() + 1 {
		for tear := range api.Sector {
			see(keep, tear, d.Crash(keep, tear))
			if keep == d.Pending() {
				break
			}
		}
	}
	see(-1, -1, d.Crash(-1, -1))
	see(0, api.Sector, d.Crash(0, api.Sector))
	see(d.Pending()+1, api.Sector+1, d.Crash(d.Pending()+1, api.Sector+1))
}

// job is something that is done to a ledger; it says what would last at last.
type job struct {
	name string
	do   func(*ledger.Ledger) []string
}

// adds are Appends, and a Sync.
func adds(name string, all ...string) job {
	return job{name, func(l *ledger.Ledger) []string {
		want := l.All()
		for _, s := range all {
			if l.Append(s) != api.ErrLedgerFull {
				want = append(want, s)
			}
		}
		l.Sync()
		return want
	}}
}

// puts is a Replace.
func puts(name string, all ...string) job {
	return job{name, func(l *ledger.Ledger) []string {
		l.Replace(all)
		return all
	}}
}

// jobs are such as are cut off. Some of them need as many bytes as others, or as some of others': so the parts of torn marks may fit.
func jobs() []job {
	return []job{
		adds("Sync"),
		adds("Append, Sync", "b"),
		adds("two Appends, Sync", noise(3, 60), ""),
		puts("Replace of none"),
		puts("Replace of one", "c"),
		puts("Replace of more", noise(4, 70), "d", ""),
	}
}

const place, sectorsThere = 2, 9

// starts are the ways to a disk and a ledger on it, and what lasts there.
func starts(t *testing.T) map[string]setup {
	lay := func(calls func(*ledger.Ledger), last ...string) setup {
		return func() (*platter.Disk, *ledger.Ledger, []string) {
			d := platter.New(place + sectorsThere)
			l := open(t, d, place, sectorsThere)
			calls(l)
			return d, l, last
		}
	}
	return map[string]setup{
		"nothing": lay(func(l *ledger.Ledger) {}),
		"two synced": lay(func(l *ledger.Ledger) {
			add(t, l, "a")
			sync(t, l)
			add(t, l, noise(1, 30))
			sync(t, l)
		}, "a", noise(1, 30)),
		"one synced, one not": lay(func(l *ledger.Ledger) {
			replace(t, l, noise(2, 61))
			add(t, l, "ab")
		}, noise(2, 61)),
		"replaced, shorter": lay(func(l *ledger.Ledger) {
			replace(t, l, noise(2, 100), "x")
			replace(t, l, "y")
			add(t, l, "z")
			sync(t, l)
		}, "y", "z"),
	}
}

// either opens what is left, and asks for one of two states; it tells which one it is.
func either(t *testing.T, what string, c *platter.Disk, old, young []string) []string {
	t.Helper()
	l, e := ledger.Open(c, place, sectorsThere)
	if e != api.OK {
		t.Fatalf("P5.4: %s: Open is %d", what, e)
	}
	all := l.All()
	if l.Len() != len(all) || !slices.Equal(all, old) && !slices.Equal(all, young) {
		t.Fatalf("P5.4: %s: %s, not %s or %s", what, show(all), show(old), show(young))
	}
	return all
}

// setup makes a disk and a ledger on it, the same ones at each call, and tells what lasts there.
type setup func() (*platter.Disk, *ledger.Ledger, []string)

// deaths lets the disk die in each step of a job. It tells of which state each dead disk may be: the one ahead of the job or the one behind it.
func deaths(set setup, j job, see func(step int, d *platter.Disk, old, young []string)) {
	for k := 1; ; k++ {
		d, l, old := set()
		d.Arm(k)
		young := j.do(l)
		if !d.Dead() {
			return
		}
		see(k, d, old, young)
	}
}

// again is a setup of what a crash left.
func again(t *testing.T, c *platter.Disk) setup {
	return func() (*platter.Disk, *ledger.Ledger, []string) {
		d := c.Crash(0, 0)
		l := open(t, d, place, sectorsThere)
		return d, l, l.All()
	}
}

func TestDeathAtEachStep(t *testing.T) {
	for name, start := range starts(t) {
		for _, j := range jobs() {
			deaths(start, j, func(step int, d *platter.Disk, old, young []string) {
				crash(d, func(keep, tear int, c *platter.Disk) {
					what := fmt.Sprintf("%s, %s, step %d, Crash(%d, %d)", name, j.name, step, keep, tear)
					all := either(t, what, c, old, young)
					l := open(t, c, place, sectorsThere)
					add(t, l, "late")
					sync(t, l)
					lasting(t, "P5.4: "+what+", Append, Sync", c, place, sectorsThere, append(slices.Clone(all), "late")...)
				})
			})
			d, l, _ := start()
			lasting(t, "P5.4: no death: "+j.name, d, place, sectorsThere, j.do(l)...)
		}
	}
}

// What is left by one death is where the next one begins.
func TestDeathOfWhatACrashLeft(t *testing.T) {
	for name, start := range starts(t) {
		for _, first := range jobs() {
			seen := map[string]bool{}
			deaths(start, first, func(step int, d *platter.Disk, old, young []string) {
				crash(d, func(keep, tear int, c *platter.Disk) {
					at := strings.Join(sectors(c), "")
					if seen[at] {
						return
					}
					seen[at] = true
					what := fmt.Sprintf("%s, %s, Crash(%d, %d)", name, first.name, keep, tear)
					either(t, what, c, old, young)
					for _, second := range jobs() {
						dieAgain(t, what, c, second)
					}
				})
			})
		}
	}
}

// dieAgain lets what a crash left die in each step of a job.
func dieAgain(t *testing.T, what string, c *platter.Disk, j job) {
	t.Helper()
	deaths(again(t, c), j, func(step int, d *platter.Disk, old, young []string) {
		for keep := range d.Pending() + 1 {
			for _, tear := range []int{0, 1, 2, 3, 6, 7, 8, 9, 10, 11, 12, 13, 14, 31, 32, 33, 40, 41, 42, 43, 55, 56, 57, 58, 63} {
				either(t, fmt.Sprintf("%s, %s, step %d, Crash(%d, %d)", what, j.name, step, keep, tear), d.Crash(keep, tear), old, young)
			}
		}
	})
}

// Behind very many Syncs, too: where numbers that are counted up have one byte more.
func TestDeathBehindManySyncs(t *testing.T) {
	const most = 1<<16 + 3
	d := platter.New(place + sectorsThere)
	l := open(t, d, place, sectorsThere)
	add(t, l, "a")
	for k := range most {
		sync(t, l)
		if left := min(k%256, 256-k%256); left > 2 && k > 9 || k > 600 && k < most-5 {
			continue
		}
		for _, j := range jobs() {
			deaths(again(t, d), j, func(step int, dead *platter.Disk, old, young []string) {
				crash(dead, func(keep, tear int, c *platter.Disk) {
					what := fmt.Sprintf("%d Syncs, %s, step %d, Crash(%d, %d)", k+1, j.name, step, keep, tear)
					either(t, what, c, old, young)
					if tear%9 == 0 && step > 1 {
						dieAgain(t, what, c, adds("Append, Sync", "late"))
					}
				})
			})
		}
	}
	lasting(t, "P5.3: behind very many Syncs", d, place, sectorsThere, "a")
}

// model is a ledger by the document's words.
type model struct {
	now, last, cut []string // what is there, what lasts, and what perhaps lasts where a call was cut off
	wasCut         bool
}

// answer notes a call that writes.
func (m *model) answer(e api.Errno, young []string) {
	switch e {
	case api.OK:
		m.now, m.last = young, young
	case api.ErrPlatterDead:
		m.cut, m.wasCut = young, true
	}
}

// Many rows of mixed calls, with many deaths one behind the other, each held against the document's words.
func TestMixedCalls(t *testing.T) {
	for seed := range 400 {
		state := uint32(seed)*2654435761 + 7
		next := func(n int) int {
			state = state*1664525 + 1013904223
			return int(state>>8) % n
		}
		from, many := next(4), 4+next(20)
		d := blank(full(from+many+next(3)), from, many)
		l, m := open(t, d, from, many), &model{}
		for step := range 200 {
			if d.Dead() {
				d = d.Crash(next(d.Pending()+2), next(70)-2)
				l = open(t, d, from, many)
				all := l.All()
				if !slices.Equal(all, m.last) && !(m.wasCut && slices.Equal(all, m.cut)) {
					t.Fatalf("P5.4: row %d, step %d: %s, not %s or %s", seed, step, show(all), show(m.last), show(m.cut))
				}
				m = &model{now: all, last: all}
			}
			switch next(8) {
			case 0:
				d.Arm(1 + next(8))
			case 1:
				var all []string
				for k := range next(6) {
					all = append(all, noise(step+k, next(40)))
				}
				e := l.Replace(all)
				if e == api.ErrLedgerFull && need(all) <= 32*(many-2)-128 {
					t.Fatalf("P5.3: row %d, step %d: Replace of %s is %d", seed, step, show(all), e)
				}
				m.answer(e, all)
			case 2, 3:
				m.answer(l.Sync(), m.now)
			case 4:
				if !d.Dead() && next(3) == 0 {
					l = open(t, d, from, many)
					m = &model{now: m.last, last: m.last}
				}
			default:
				s := noise(step, next(80))
				fits := len(s) <= l.Room()
				e := l.Append(s)
				if fits && e != api.OK && e != api.ErrPlatterDead || !fits && e != api.ErrLedgerFull {
					t.Fatalf("P5.2: row %d, step %d: Append of %d bytes is %d", seed, step, len(s), e)
				}
				if e == api.OK {
					m.now = append(slices.Clone(m.now), s)
				}
			}
			holds(t, fmt.Sprintf("P5.2: row %d, step %d", seed, step), l, m.now...)
			if l.Room() < leastRoom(many, m.now) {
				t.Fatalf("P5.2: row %d, step %d: Room is %d", seed, step, l.Room())
			}
		}
	}
}

func TestTheSameCallsTellTheSame(t *testing.T) {
	var all [2][]string
	for k := range all {
		d, l, _ := starts(t)["replaced, shorter"]()
		d.Arm(3)
		jobs()[5].do(l)
		all[k] = sectors(d)
	}
	if !slices.Equal(all[0], all[1]) {
		t.Error("R7: the same calls leave other disks")
	}
}
