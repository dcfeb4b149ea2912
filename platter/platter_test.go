package platter_test

import (
	"math"
	"slices"
	"strings"
	"testing"

	"harpsichord/api"
	"harpsichord/platter"
)

// full is s with bytes 0 behind it, as a sector has it.
func full(s string) string {
	return s + strings.Repeat("\x00", api.Sector-len(s))
}

// show is a sector without the bytes 0 that end it.
func show(s string) string {
	return strings.TrimRight(s, "\x00")
}

// noise is a text of n bytes, another one for each seed, and the same one at each call.
func noise(seed, n int) string {
	b := make([]byte, n)
	state := uint32(seed)*2654435761 + 1
	for k := range b {
		state = state*1664525 + 1013904223
		b[k] = byte(state >> 24)
	}
	return string(b)
}

// laid is a disk on which these texts stand, a sector each, and nothing waits.
func laid(t *testing.T, texts ...string) *platter.Disk {
	t.Helper()
	d := platter.New(len(texts))
	for n, s := range texts {
		write(t, d, n, s)
	}
	sync(t, d)
	return d
}

// died is such a disk that has died in a Sync.
func died(t *testing.T, texts ...string) *platter.Disk {
	t.Helper()
	d := laid(t, texts...)
	d.Arm(1)
	if e := d.Sync(); e != api.ErrPlatterDead || !d.Dead() {
		t.Fatalf("P4.2: Sync behind Arm(1) is %d, Dead %v", e, d.Dead())
	}
	return d
}

func write(t *testing.T, d *platter.Disk, n int, s string) {
	t.Helper()
	if e := d.Write(n, []byte(s)); e != api.OK {
		t.Fatalf("P4.1: Write(%d, %q) is %d", n, s, e)
	}
}

func sync(t *testing.T, d *platter.Disk) {
	t.Helper()
	if e := d.Sync(); e != api.OK {
		t.Fatalf("P4.1: Sync is %d", e)
	}
	if n := d.Pending(); n != 0 {
		t.Fatalf("P4.1: behind Sync %d writes wait", n)
	}
}

func pending(t *testing.T, d *platter.Disk, want int) {
	t.Helper()
	if n := d.Pending(); n != want {
		t.Errorf("P4.1: %d writes wait, not %d", n, want)
	}
}

// holds asks for just these sectors, as Read tells them.
func holds(t *testing.T, what string, d *platter.Disk, want ...string) {
	t.Helper()
	if d.Many() != len(want) {
		t.Fatalf("%s: %d sectors, not %d", what, d.Many(), len(want))
	}
	for n, s := range want {
		if b, e := d.Read(n); e != api.OK || string(b) != full(s) {
			t.Errorf("%s: Read(%d) is %q (%d bytes), %d, not %q", what, n, show(string(b)), len(b), e, s)
		}
	}
}

// fresh asks that a disk is as P4.3 says of what Crash tells: not dead, not armed, nothing waiting, with these sectors.
func fresh(t *testing.T, what string, d *platter.Disk, want ...string) {
	t.Helper()
	if d.Dead() || d.Pending() != 0 {
		t.Errorf("%s: Dead %v, Pending %d", what, d.Dead(), d.Pending())
	}
	holds(t, what, d, want...)
	for range 5 {
		if e := d.Sync(); e != api.OK {
			t.Fatalf("%s: it is armed: Sync is %d", what, e)
		}
	}
}

// refused are the calls that have no such place.
func refused(t *testing.T, d *platter.Disk, want api.Errno) {
	t.Helper()
	many := d.Many()
	for _, n := range []int{-1, -2, many, many + 1, 1 << 16, 1<<16 + 1, math.MaxInt32, math.MinInt32, math.MaxInt, math.MinInt} {
		for _, b := range [][]byte{nil, []byte("ab"), make([]byte, api.Sector), make([]byte, api.Sector+1)} {
			if e := d.Write(n, b); e != want {
				t.Errorf("P4.1: of %d sectors: Write(%d, %d bytes) is %d, not %d", many, n, len(b), e, want)
			}
		}
		if b, e := d.Read(n); b != nil || e != want {
			t.Errorf("P4.1: of %d sectors: Read(%d) is %q, %d, not %d", many, n, b, e, want)
		}
	}
	for n := range min(many, 3) {
		for _, long := range []int{api.Sector + 1, api.Sector + 2, 2 * api.Sector, 1 << 8, 1 << 16, 1<<16 + 1} {
			if e := d.Write(n, make([]byte, long)); e != want {
				t.Errorf("P4.1: Write(%d, %d bytes) is %d, not %d", n, long, e, want)
			}
		}
	}
}

func TestExamples(t *testing.T) {
	d := platter.New(2)
	write(t, d, 0, "ab")
	sync(t, d)
	write(t, d, 0, "xyz")
	fresh(t, "P4.3: Crash(0, 1)", d.Crash(0, 1), "xb", "")

	d = platter.New(2)
	d.Arm(1)
	if e := d.Sync(); e != api.ErrPlatterDead || !d.Dead() {
		t.Errorf("P4.2: Arm(1), Sync is %d, Dead %v", e, d.Dead())
	}
}

func TestNew(t *testing.T) {
	for _, c := range []struct{ asked, want int }{
		{0, 0}, {-1, 0}, {-2, 0}, {math.MinInt32, 0}, {math.MinInt, 0}, {1, 1}, {2, 2}, {1100, 1100},
		{1<<16 - 1, 1<<16 - 1}, {1 << 16, 1 << 16}, {1<<16 + 1, 1 << 16}, {1 << 17, 1 << 16}, {math.MaxInt32, 1 << 16}, {1 << 40, 1 << 16}, {math.MaxInt, 1 << 16},
	} {
		d := platter.New(c.asked)
		if d.Many() != c.want || d.Pending() != 0 || d.Dead() {
			t.Errorf("P4.1: New(%d): Many %d, Pending %d, Dead %v", c.asked, d.Many(), d.Pending(), d.Dead())
		}
		for n := range d.Many() {
			if b, e := d.Read(n); e != api.OK || string(b) != full("") {
				t.Fatalf("P4.1: New(%d): Read(%d) is %q, %d", c.asked, n, b, e)
			}
		}
		refused(t, d, api.ErrPlatterPlace)
	}
}

func TestWriteOnTheLastSector(t *testing.T) {
	d := platter.New(1 << 16)
	write(t, d, 0, "first")
	write(t, d, 1<<16-1, "last")
	for n, want := range map[int]string{0: "first", 1: "", 1<<16 - 2: "", 1<<16 - 1: "last"} {
		if b, e := d.Read(n); e != api.OK || string(b) != full(want) {
			t.Errorf("P4.1: Read(%d) is %q, %d", n, b, e)
		}
	}
	if c := d.Crash(1, 2); c.Many() != 1<<16 {
		t.Errorf("P4.3: %d sectors are left of 2^16", c.Many())
	} else if b, e := c.Read(1<<16 - 1); e != api.OK || string(b) != full("la") {
		t.Errorf("P4.3: Read(2^16 - 1) is %q, %d", b, e)
	}
}

func TestADiskWithoutSectors(t *testing.T) {
	d := platter.New(0)
	sync(t, d)
	d.Arm(2)
	refused(t, d, api.ErrPlatterPlace)
	sync(t, d)
	if e := d.Sync(); e != api.ErrPlatterDead || !d.Dead() {
		t.Errorf("P4.2: the second Sync is %d, Dead %v", e, d.Dead())
	}
	refused(t, d, api.ErrPlatterDead)
	fresh(t, "P4.3: a crash of no sector", d.Crash(1, 1))
}

func TestWriteOfEachLength(t *testing.T) {
	d := laid(t, noise(1, api.Sector), noise(2, api.Sector), noise(3, api.Sector))
	for n := range api.Sector + 1 {
		write(t, d, 1, noise(4, api.Sector)) // longer than what comes
		write(t, d, 1, noise(5+n, n))
		pending(t, d, 2)
		holds(t, "P4.1: a write of each length", d, noise(1, api.Sector), noise(5+n, n), noise(3, api.Sector))
		sync(t, d)
		holds(t, "P4.1: a write of each length, synced", d, noise(1, api.Sector), noise(5+n, n), noise(3, api.Sector))
	}
	if e := d.Write(1, nil); e != api.OK {
		t.Errorf("P4.1: Write(1, nil) is %d", e)
	}
	pending(t, d, 1)
	holds(t, "P4.1: a write of nil", d, noise(1, api.Sector), "", noise(3, api.Sector))
}

func TestEachWriteWaits(t *testing.T) {
	d := platter.New(3)
	for k := range 1000 {
		write(t, d, k%3, "ab") // one that changes nothing waits, too
		pending(t, d, k+1)
	}
	sync(t, d)
	sync(t, d)
	write(t, d, 0, "")
	pending(t, d, 1)
}

func TestWhatIsRefusedChangesNothing(t *testing.T) {
	d := laid(t, "ab", "cd")
	write(t, d, 1, "ef")
	d.Arm(2)
	refused(t, d, api.ErrPlatterPlace)
	pending(t, d, 1)
	holds(t, "P4.1: behind refused calls", d, "ab", "ef")
	fresh(t, "P4.3: behind refused calls", d.Crash(0, 0), "ab", "cd")
	write(t, d, 0, "gh")
	if e := d.Write(0, nil); e != api.ErrPlatterDead {
		t.Errorf("P4.2: refused calls count for Arm, or let it be forgotten: the second Write is %d", e)
	}
}

// A dead disk says so whatever the place is.
func TestDeadIsToldFirst(t *testing.T) {
	d := died(t, "ab", "cd", "ef")
	refused(t, d, api.ErrPlatterDead)
	for n := range 3 {
		for _, b := range [][]byte{nil, []byte("x"), make([]byte, api.Sector)} {
			if e := d.Write(n, b); e != api.ErrPlatterDead {
				t.Errorf("P4.1: Write(%d, %d bytes) on a dead disk is %d", n, len(b), e)
			}
		}
		if b, e := d.Read(n); b != nil || e != api.ErrPlatterDead {
			t.Errorf("P4.1: Read(%d) on a dead disk is %q, %d", n, b, e)
		}
	}
	if e := d.Sync(); e != api.ErrPlatterDead {
		t.Errorf("P4.1: Sync on a dead disk is %d", e)
	}
	if d.Many() != 3 || d.Pending() != 0 || !d.Dead() {
		t.Errorf("P4.1: a dead disk: Many %d, Pending %d, Dead %v", d.Many(), d.Pending(), d.Dead())
	}
	fresh(t, "P4.3: a crash of a dead disk", d.Crash(9, 9), "ab", "cd", "ef")
}

func TestBytesReadAreTheCallersOwn(t *testing.T) {
	d := laid(t, "ab", "cd")
	write(t, d, 1, "ef")
	b, _ := d.Read(0)
	again, _ := d.Read(0)
	for k := range b {
		b[k] = '!'
	}
	b = append(b, "behind"...)
	if string(again) != full("ab") {
		t.Errorf("R6: what was read once more is %q", again)
	}
	holds(t, "R6: behind a read that was turned", d, "ab", "ef")
	waited, _ := d.Read(1)
	clear(waited)
	holds(t, "R6: behind a read that was turned", d, "ab", "ef")
	fresh(t, "R6: a crash behind a read that was turned", d.Crash(0, 1), "ab", "ed")
	found := d.Crash(1, 0)
	b, _ = found.Read(1)
	clear(b)
	holds(t, "R6: the disk of a crash", found, "ab", "ef")
	kept, _ := d.Read(1)
	write(t, d, 1, "gh")
	if string(kept) != full("ef") {
		t.Errorf("R6: what was read became %q by a Write", kept)
	}
}

func TestBytesGivenAreNotKept(t *testing.T) {
	d := platter.New(2)
	for _, n := range []int{2, api.Sector} {
		given := []byte(noise(n, n))
		if e := d.Write(0, given); e != api.OK || string(given) != noise(n, n) {
			t.Errorf("R5: Write is %d, and what was given is %q", e, given)
		}
		clear(given)
		holds(t, "R6: behind bytes that the caller turned", d, noise(n, n), "")
		fresh(t, "R6: a crash behind them", d.Crash(9, 0), noise(n, n), "")
	}
	room := []byte("abcdefgh")
	if e := d.Write(1, room[2:4]); e != api.OK || string(room) != "abcdefgh" {
		t.Errorf("R5: Write is %d, and what stood behind the bytes is %q", e, room)
	}
	holds(t, "P4.1: a piece of more bytes", d, noise(api.Sector, api.Sector), "cd")
}

// The k-th call is a Write: it waits.
func TestArmDiesInAWrite(t *testing.T) {
	for k := 1; k < 8; k++ {
		d := laid(t, "ab", "cd")
		d.Arm(k)
		for range k - 1 {
			write(t, d, 0, "xyz")
			if d.Dead() {
				t.Fatalf("P4.2: Arm(%d): dead ahead of the last call", k)
			}
		}
		if e := d.Write(1, []byte("q")); e != api.ErrPlatterDead || !d.Dead() {
			t.Fatalf("P4.2: Arm(%d): Write number %d is %d, Dead %v", k, k, e, d.Dead())
		}
		pending(t, d, k)
		for range 3 {
			if e := d.Write(0, []byte("z")); e != api.ErrPlatterDead || d.Sync() != api.ErrPlatterDead {
				t.Errorf("P4.2: Arm(%d): a Write on the dead disk is %d", k, e)
			}
		}
		pending(t, d, k)
		fresh(t, "P4.2: all of what waits", d.Crash(k, 0), when(k > 1, "xyz", "ab"), "q")
		fresh(t, "P4.2: all but the last one", d.Crash(k-1, 0), when(k > 1, "xyz", "ab"), "cd")
		fresh(t, "P4.2: the last one torn", d.Crash(k-1, 1), when(k > 1, "xyz", "ab"), "qd")
	}
}

func when(is bool, a, b string) string {
	if is {
		return a
	}
	return b
}

// The k-th call is a Sync: it does nothing.
func TestArmDiesInASync(t *testing.T) {
	for k := 1; k < 8; k++ {
		d := laid(t, "ab", "cd")
		d.Arm(k)
		for range k - 1 {
			write(t, d, 0, "xyz")
		}
		if e := d.Sync(); e != api.ErrPlatterDead || !d.Dead() {
			t.Fatalf("P4.2: Arm(%d): Sync as number %d is %d, Dead %v", k, k, e, d.Dead())
		}
		pending(t, d, k-1)
		if e := d.Sync(); e != api.ErrPlatterDead {
			t.Errorf("P4.2: Arm(%d): a Sync on the dead disk is %d", k, e)
		}
		pending(t, d, k-1)
		fresh(t, "P4.2: what had lasted ahead of the Sync", d.Crash(0, 0), "ab", "cd")
		fresh(t, "P4.2: what the Sync would have made last", d.Crash(k-1, 0), when(k > 1, "xyz", "ab"), "cd")
	}
}

func TestArmCountsSyncs(t *testing.T) {
	d := laid(t, "ab")
	d.Arm(4)
	sync(t, d)
	write(t, d, 0, "cd")
	sync(t, d)
	if e := d.Write(0, []byte("efg")); e != api.ErrPlatterDead {
		t.Errorf("P4.2: call number 4 is %d", e)
	}
	pending(t, d, 1)
	fresh(t, "P4.2: call number 4 torn", d.Crash(0, 1), "ed")
}

func TestArmCountsFromNowOn(t *testing.T) {
	d := laid(t, "ab")
	write(t, d, 0, "cd")
	sync(t, d)
	d.Arm(2)
	write(t, d, 0, "ef")
	if e := d.Sync(); e != api.ErrPlatterDead {
		t.Errorf("P4.2: the second call behind Arm(2) is %d", e)
	}
}

func TestArmOfNoCall(t *testing.T) {
	for _, k := range []int{0, -1, -2, math.MinInt32, math.MinInt, math.MaxInt32, math.MaxInt} {
		d := platter.New(1)
		d.Arm(k)
		for range 500 {
			write(t, d, 0, "ab")
			sync(t, d)
		}
		if d.Dead() {
			t.Errorf("P4.2: Arm(%d): dead", k)
		}
	}
}

// Only Writes and Syncs that would be OK count.
func TestArmCountsNothingElse(t *testing.T) {
	d := laid(t, "ab")
	d.Arm(1)
	for range 3 {
		refused(t, d, api.ErrPlatterPlace)
		holds(t, "P4.2: an armed disk", d, "ab")
		pending(t, d, 0)
		fresh(t, "P4.3: a crash of an armed disk", d.Crash(0, 0), "ab")
	}
	if d.Dead() {
		t.Fatal("P4.2: dead by calls that do not count")
	}
	if e := d.Write(0, nil); e != api.ErrPlatterDead {
		t.Errorf("P4.2: the first Write is %d", e)
	}
}

func TestArmAgain(t *testing.T) {
	for _, c := range []struct{ first, calls, then, dies int }{
		{1, 0, 3, 3}, {3, 0, 1, 1}, {3, 2, 3, 3}, {5, 3, 1, 1}, {2, 1, 2, 2}, {0, 4, 2, 2}, {-1, 0, 1, 1}, {1, 0, 0, 0}, {3, 2, -1, 0}, {1, 0, math.MinInt, 0},
	} {
		d := platter.New(1)
		d.Arm(c.first)
		for range c.calls {
			write(t, d, 0, "ab")
		}
		d.Arm(c.then)
		for k := 1; k < 20; k++ {
			want := api.OK
			if c.dies != 0 && k >= c.dies {
				want = api.ErrPlatterDead
			}
			if e := d.Write(0, nil); e != want || d.Dead() != (want != api.OK) {
				t.Errorf("P4.2: Arm(%d), %d calls, Arm(%d): call number %d is %d, Dead %v", c.first, c.calls, c.then, k, e, d.Dead())
			}
		}
	}
}

func TestArmWakesNoDeadDisk(t *testing.T) {
	for _, k := range []int{-1, 0, 1, 2, 100} {
		d := died(t, "ab")
		d.Arm(k)
		if e := d.Write(0, nil); e != api.ErrPlatterDead || d.Sync() != api.ErrPlatterDead || !d.Dead() || d.Pending() != 0 {
			t.Errorf("P4.2: Arm(%d) on a dead disk: Write is %d, Dead %v, Pending %d", k, e, d.Dead(), d.Pending())
		}
		fresh(t, "P4.3: a crash of a dead disk that was armed", d.Crash(0, 0), "ab")
	}
}

// three is a disk on which three writes wait, the first and the last one on one sector.
func three(t *testing.T) *platter.Disk {
	t.Helper()
	d := laid(t, "abcd", "efgh", "ijkl")
	write(t, d, 0, "AB")
	write(t, d, 2, "IJKLMN")
	write(t, d, 0, "0123")
	return d
}

func TestCrashKeeps(t *testing.T) {
	for keep, want := range map[int][3]string{
		math.MinInt:   {"abcd", "efgh", "ijkl"},
		-1:            {"abcd", "efgh", "ijkl"},
		0:             {"abcd", "efgh", "ijkl"},
		1:             {"AB", "efgh", "ijkl"},
		2:             {"AB", "efgh", "IJKLMN"},
		3:             {"0123", "efgh", "IJKLMN"},
		4:             {"0123", "efgh", "IJKLMN"},
		math.MaxInt32: {"0123", "efgh", "IJKLMN"},
		math.MaxInt:   {"0123", "efgh", "IJKLMN"},
	} {
		for _, tear := range []int{0, -1, math.MinInt} {
			fresh(t, "P4.3: whole writes", three(t).Crash(keep, tear), want[:]...)
		}
	}
}

// A torn write has what it wrote, bytes 0 among it, and behind that what its sector had when it came.
func TestCrashTears(t *testing.T) {
	for _, c := range []struct {
		keep, tear int
		want       [3]string
	}{
		{0, 1, [3]string{"Abcd", "efgh", "ijkl"}},
		{-7, 1, [3]string{"Abcd", "efgh", "ijkl"}},
		{0, 2, [3]string{"ABcd", "efgh", "ijkl"}},
		{0, 3, [3]string{"AB\x00d", "efgh", "ijkl"}},
		{0, 4, [3]string{"AB", "efgh", "ijkl"}},
		{1, 2, [3]string{"AB", "efgh", "IJkl"}},
		{1, 5, [3]string{"AB", "efgh", "IJKLM"}},
		{2, 1, [3]string{"0B", "efgh", "IJKLMN"}},
		{2, 3, [3]string{"012", "efgh", "IJKLMN"}},
		{3, 1, [3]string{"0123", "efgh", "IJKLMN"}},
		{9, 1, [3]string{"0123", "efgh", "IJKLMN"}},
	} {
		fresh(t, "P4.3: a torn write", three(t).Crash(c.keep, c.tear), c.want[:]...)
	}
}

func TestCrashTearsASectorAtMost(t *testing.T) {
	old, young := noise(1, api.Sector), noise(2, api.Sector)
	d := laid(t, old, "next")
	write(t, d, 0, young)
	write(t, d, 1, "")
	for _, c := range []struct{ tear, want int }{
		{math.MinInt, 0}, {-64, 0}, {-1, 0}, {0, 0}, {1, 1}, {31, 31}, {32, 32}, {63, 63}, {64, 64}, {65, 64}, {128, 64}, {math.MaxInt32, 64}, {math.MaxInt, 64},
	} {
		fresh(t, "P4.3: a torn write", d.Crash(0, c.tear), young[:c.want]+old[c.want:], "next")
	}
	fresh(t, "P4.3: a torn write of no byte", d.Crash(1, 2), young, "\x00\x00xt")
	fresh(t, "P4.3: a write of no byte, all of it", d.Crash(1, 4), young, "")
}

func TestCrashWhereNothingWaits(t *testing.T) {
	for _, at := range []int{math.MinInt, -1, 0, 1, 64, math.MaxInt} {
		fresh(t, "P4.3: nothing waits", laid(t, "ab", "cd").Crash(at, at), "ab", "cd")
		fresh(t, "P4.3: a new disk", platter.New(2).Crash(at, at), "", "")
		fresh(t, "P4.3: a new disk without sectors", platter.New(0).Crash(at, at))
	}
}

func TestCrashLeavesTheDiskAsItWas(t *testing.T) {
	d := three(t)
	d.Arm(2)
	for _, keep := range []int{-1, 0, 1, 2, 3, 4} {
		d.Crash(keep, 1)
		pending(t, d, 3)
		holds(t, "P4.3: the disk itself", d, "0123", "efgh", "IJKLMN")
	}
	write(t, d, 1, "EF")
	if e := d.Sync(); e != api.ErrPlatterDead {
		t.Errorf("P4.3: the second call behind Arm(2) and crashes is %d", e)
	}
	for range 2 {
		fresh(t, "P4.3: a crash of the dead disk", d.Crash(3, 1), "0123", "Efgh", "IJKLMN")
		pending(t, d, 4)
		if !d.Dead() {
			t.Error("P4.3: a crash woke the disk itself")
		}
	}
}

func TestCrashIsADiskOfItsOwn(t *testing.T) {
	d := three(t)
	some, all := d.Crash(1, 0), d.Crash(3, 0)
	write(t, some, 1, "some")
	write(t, all, 2, "all")
	sync(t, all)
	write(t, d, 0, "late")
	some.Arm(1)
	if e := some.Sync(); e != api.ErrPlatterDead || d.Dead() || all.Dead() {
		t.Errorf("P4.3: Sync is %d; the others' Dead is %v, %v", e, d.Dead(), all.Dead())
	}
	pending(t, some, 1)
	pending(t, all, 0)
	pending(t, d, 4)
	holds(t, "P4.3: the disk itself", d, "late", "efgh", "IJKLMN")
	fresh(t, "P4.3: a crash of the disk itself", d.Crash(0, 0), "abcd", "efgh", "ijkl")
	fresh(t, "P4.3: a crash of a crash", some.Crash(0, 1), "AB", "sfgh", "ijkl")
	sync(t, d)
	fresh(t, "P4.3: behind a Sync of the disk itself", all, "0123", "efgh", "all")
	d.Arm(1)
	if e := d.Sync(); e != api.ErrPlatterDead || all.Dead() {
		t.Errorf("P4.3: Sync is %d; the other's Dead is %v", e, all.Dead())
	}
}

// crashes are ways in which a disk on which so many writes wait may be found.
func crashes(d *platter.Disk) []*platter.Disk {
	var l []*platter.Disk
	for keep := -1; keep <= d.Pending()+1; keep++ {
		for _, tear := range []int{-1, 0, 1, 7, 63, 64, 65} {
			l = append(l, d.Crash(keep, tear))
		}
	}
	return l
}

func TestWhatWasSyncedIsFound(t *testing.T) {
	const many = 6
	want := make([]string, many)
	for n := range want {
		want[n] = noise(n, api.Sector)
	}
	d := laid(t, want...)
	for round := 1; round < 40; round++ {
		free := round % many // the one sector on which nothing is written
		for k := range 4 {
			write(t, d, (free+1+(round+k)%(many-1))%many, noise(100*round+k, k*21))
		}
		if round%5 == 0 {
			d.Arm(1)
			d.Sync()
		}
		for _, c := range crashes(d) {
			if b, e := c.Read(free); e != api.OK || string(b) != want[free] {
				t.Fatalf("P4.4: round %d: sector %d is %q, %d", round, free, b, e)
			}
		}
		d = d.Crash(2, 5)
		sync(t, d)
		for n := range want {
			b, _ := d.Read(n)
			want[n] = string(b)
		}
	}
}

// slow is a disk by the document's words: what lasts, and behind it what waits.
type slow struct {
	lasts []string
	waits []string
	where []int
	left  int
	dead  bool
}

// apply is what stands there if the first keep writes lasted, and tear bytes of the next one.
func (s *slow) apply(keep, tear int) []string {
	l := slices.Clone(s.lasts)
	for k, b := range s.waits {
		n := s.where[k]
		if k < keep {
			l[n] = b
		} else if k == keep {
			tear = min(max(tear, 0), api.Sector)
			l[n] = b[:tear] + l[n][tear:]
		}
	}
	return l
}

// dies counts a call that would be OK.
func (s *slow) dies() api.Errno {
	s.left--
	if s.left == 0 {
		s.dead = true
		return api.ErrPlatterDead
	}
	return api.OK
}

func (s *slow) write(n int, b string) api.Errno {
	if s.dead {
		return api.ErrPlatterDead
	}
	if n < 0 || n >= len(s.lasts) || len(b) > api.Sector {
		return api.ErrPlatterPlace
	}
	s.waits, s.where = append(s.waits, full(b)), append(s.where, n)
	return s.dies()
}

func (s *slow) sync() api.Errno {
	if s.dead {
		return api.ErrPlatterDead
	}
	if e := s.dies(); e != api.OK {
		return e
	}
	s.lasts = s.apply(len(s.waits), 0)
	s.waits, s.where = nil, nil
	return api.OK
}

func (s *slow) crash(keep, tear int) *slow {
	if keep < 0 {
		keep = 0
	}
	return &slow{lasts: s.apply(keep, tear)}
}

// same holds all that a disk tells against it.
func (s *slow) same(t *testing.T, d *platter.Disk) {
	t.Helper()
	if d.Many() != len(s.lasts) || d.Pending() != len(s.waits) || d.Dead() != s.dead {
		t.Fatalf("P4.1: Many %d, Pending %d, Dead %v, not %d, %d, %v", d.Many(), d.Pending(), d.Dead(), len(s.lasts), len(s.waits), s.dead)
	}
	for n, want := range s.apply(len(s.waits), 0) {
		b, e := d.Read(n)
		if s.dead {
			if b != nil || e != api.ErrPlatterDead {
				t.Fatalf("P4.1: Read(%d) on a dead disk is %q, %d", n, b, e)
			}
		} else if e != api.OK || string(b) != want {
			t.Fatalf("P4.1: Read(%d) is %q, %d, not %q", n, b, e, want)
		}
	}
}

// Many rows of mixed calls, each held against the document's words.
func TestMixedCalls(t *testing.T) {
	for seed := range 300 {
		state := uint32(seed)*2654435761 + 7
		next := func(n int) int {
			state = state*1664525 + 1013904223
			return int(state>>8) % n
		}
		many := next(5)
		d, s := platter.New(many), &slow{lasts: slices.Repeat([]string{full("")}, many)}
		for step := range 60 {
			var got, want api.Errno
			switch next(8) {
			case 0:
				got, want = d.Sync(), s.sync()
			case 1:
				k := next(12) - 2
				d.Arm(k)
				s.left = k
			case 2:
				keep, tear := next(len(s.waits)+4)-2, next(api.Sector+8)-4
				d, s = d.Crash(keep, tear), s.crash(keep, tear)
			default:
				n, b := next(many+2)-1, noise(1000*seed+step, next(api.Sector+4))
				got, want = d.Write(n, []byte(b)), s.write(n, b)
			}
			if got != want {
				t.Fatalf("P4.1: row %d, step %d: %d, not %d", seed, step, got, want)
			}
			s.same(t, d)
			for keep := -1; keep <= len(s.waits)+1; keep++ {
				tear := next(api.Sector+8) - 4
				s.crash(keep, tear).same(t, d.Crash(keep, tear))
			}
		}
	}
}
