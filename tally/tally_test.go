package tally_test

import (
	"bytes"
	"math"
	"strings"
	"testing"

	"harpsichord/tally"
)

// slow is P1.1 word by word, one step behind the other.
func slow(c uint32, b []byte) uint32 {
	c = ^c
	for _, x := range b {
		c ^= uint32(x)
		for range 8 {
			out := c & 1
			c >>= 1
			if out == 1 {
				c ^= 0x82f63b78
			}
		}
	}
	return ^c
}

// starts are sums to go on with: each bit alone, and some mixed ones.
func starts() []uint32 {
	l := []uint32{0, 5, math.MaxUint32, 0xe3069283, 0x82f63b78, 0x55555555, 0xaaaaaaaa, 0x12345678}
	for k := range 32 {
		l = append(l, 1<<k)
	}
	return l
}

// noise has n bytes, the same ones at each call.
func noise(n int) []byte {
	b := make([]byte, n)
	state := uint32(n) + 1
	for k := range b {
		state = state*1664525 + 1013904223
		b[k] = byte(state >> 24)
	}
	return b
}

func TestSumExamples(t *testing.T) {
	rising := make([]byte, 32)
	for k := range rising {
		rising[k] = byte(k)
	}
	for _, c := range []struct {
		name string
		b    []byte
		want uint32
	}{
		{"123456789", []byte("123456789"), 0xe3069283},
		{"nil", nil, 0},
		{"no bytes", []byte{}, 0},
		{"a", []byte("a"), 0xc1d04330},
		{"four bytes 0", make([]byte, 4), 0x48674bc7},
		{"32 bytes 0", make([]byte, 32), 0x8a9136aa},
		{"32 bytes 255", bytes.Repeat([]byte{255}, 32), 0x62a8ab43},
		{"0 to 31", rising, 0x46dd794e},
	} {
		if got := tally.Sum(c.b); got != c.want {
			t.Errorf("P1.1: Sum of %s is %08x, not %08x", c.name, got, c.want)
		}
	}
}

func TestMoreOfNothingIsTheSum(t *testing.T) {
	for _, c := range starts() {
		if got := tally.More(c, nil); got != c {
			t.Errorf("P1.1: More(%08x, nil) is %08x", c, got)
		}
		if got := tally.More(c, []byte{}); got != c {
			t.Errorf("P1.1: More(%08x, no bytes) is %08x", c, got)
		}
	}
}

func TestMoreOfEachByte(t *testing.T) {
	for _, c := range starts() {
		for x := range 256 {
			b := []byte{byte(x)}
			if got, want := tally.More(c, b), slow(c, b); got != want {
				t.Fatalf("P1.1: More(%08x, byte %d) is %08x, not %08x", c, x, got, want)
			}
		}
	}
}

func TestMoreOfManyBytes(t *testing.T) {
	for _, n := range []int{1, 2, 3, 4, 5, 7, 8, 9, 15, 16, 17, 63, 64, 65, 4095, 4096, 4097} {
		b := noise(n)
		for _, c := range starts() {
			if got, want := tally.More(c, b), slow(c, b); got != want {
				t.Fatalf("P1.1: More(%08x, %d bytes) is %08x, not %08x", c, n, got, want)
			}
		}
		if got, want := tally.Sum(b), slow(0, b); got != want {
			t.Errorf("P1.1: Sum of %d bytes is %08x, not %08x", n, got, want)
		}
	}
}

func TestBytesStayAsTheyWere(t *testing.T) {
	b := noise(100)
	tally.Sum(b)
	tally.More(7, b)
	if !bytes.Equal(b, noise(100)) {
		t.Error("R5: bytes that were handed in are others now")
	}
}

func TestZerosExamples(t *testing.T) {
	if got := tally.Zeros(0, 4); got != 0x48674bc7 {
		t.Errorf("P1.2: Zeros(0, 4) is %08x", got)
	}
	if got := tally.Zeros(5, -1); got != 5 {
		t.Errorf("P1.2: Zeros(5, -1) is %08x", got)
	}
}

func TestZerosOfNone(t *testing.T) {
	for _, c := range starts() {
		for _, n := range []int{0, -1, -2, -8, math.MinInt32, math.MinInt + 1, math.MinInt} {
			if got := tally.Zeros(c, n); got != c {
				t.Errorf("P1.2: Zeros(%08x, %d) is %08x", c, n, got)
			}
		}
	}
}

func TestZerosAreBytes(t *testing.T) {
	for _, c := range starts() {
		want := c
		for n := 1; n <= 1030; n++ {
			want = slow(want, []byte{0})
			if got := tally.Zeros(c, n); got != want {
				t.Fatalf("P1.2: Zeros(%08x, %d) is %08x, not %08x", c, n, got, want)
			}
		}
	}
	for _, n := range []int{1<<16 - 1, 1 << 16, 1<<20 + 1} {
		if got, want := tally.Zeros(9, n), slow(9, make([]byte, n)); got != want {
			t.Errorf("P1.2: Zeros(9, %d) is %08x, not %08x", n, got, want)
		}
	}
}

// Too many bytes to lay out: 2^31 - 1 steps lead each number back to itself, and 2^63 - 1 leaves a rest of 1 by that.
func TestZerosOfVeryMany(t *testing.T) {
	for _, c := range starts() {
		if got := tally.Zeros(c, math.MaxInt32); got != c {
			t.Errorf("P1.2: Zeros(%08x, 2^31 - 1) is %08x", c, got)
		}
		if got, want := tally.Zeros(c, math.MaxInt32+3), slow(c, make([]byte, 3)); got != want {
			t.Errorf("P1.2: Zeros(%08x, 2^31 + 2) is %08x, not %08x", c, got, want)
		}
		if got, want := tally.Zeros(c, math.MaxInt64), slow(c, make([]byte, 1)); got != want {
			t.Errorf("P1.2: Zeros(%08x, 2^63 - 1) is %08x, not %08x", c, got, want)
		}
	}
}

func TestSumGoesOn(t *testing.T) {
	for _, text := range []string{"123456789", "x", "", strings.Repeat("harpsichord ", 30)} {
		whole := []byte(text)
		for cut := range len(whole) + 1 {
			a, b := whole[:cut], whole[cut:]
			if got, want := tally.More(tally.Sum(a), b), tally.Sum(whole); got != want {
				t.Errorf("P1.3: %q cut at %d: %08x, not %08x", text, cut, got, want)
			}
		}
	}
}

// turn turns the bits of pattern from bit number at on, the lowest bit of a byte first.
func turn(b []byte, at int, pattern uint32) []byte {
	other := bytes.Clone(b)
	for k := range 32 {
		if pattern>>k&1 == 1 {
			other[(at+k)/8] ^= 1 << ((at + k) % 8)
		}
	}
	return other
}

// patterns are ways to turn bits of 32: each pair (or one alone), each row that begins with the first bit, and mixed ones.
func patterns() []uint32 {
	var l []uint32
	for a := range 32 {
		for b := range a + 1 {
			l = append(l, 1<<a|1<<b)
		}
		l = append(l, uint32(2)<<a-1)
	}
	state := uint32(1)
	for range 500 {
		state = state*1664525 + 1013904223
		l = append(l, state)
	}
	return append(l, 0x82f63b78, 0x05ec76f1, 0x1edc6f41)
}

func TestTurnedBitsAreFound(t *testing.T) {
	for _, b := range [][]byte{make([]byte, 1), []byte("ab"), []byte("xyz"), []byte("123456789"), make([]byte, 12), noise(20)} {
		sum := tally.Sum(b)
		for at := range 8 * len(b) {
			for _, p := range patterns() {
				if left := 8*len(b) - at; left < 32 {
					p &= 1<<left - 1
				}
				if p != 0 && tally.Sum(turn(b, at, p)) == sum {
					t.Fatalf("P1.3: %q has the same sum with bits %08x turned from %d on", b, p, at)
				}
			}
		}
	}
}

// What a pattern changes of a sum is the xor of what its bits change: where none of 32 bits is such an xor of others, all 2^32 - 1 patterns there are found.
func TestAllPatternsAreFound(t *testing.T) {
	b := noise(16)
	sum := tally.Sum(b)
	for at := 0; at+32 <= 8*len(b); at++ {
		var change [32]uint32
		for k := range change {
			change[k] = tally.Sum(turn(b, at, 1<<k)) ^ sum
		}
		for _, p := range patterns() {
			want := sum
			for k := range change {
				if p>>k&1 == 1 {
					want ^= change[k]
				}
			}
			if got := tally.Sum(turn(b, at, p)); got != want {
				t.Fatalf("P1.3: bits %08x turned from %d on: %08x, not %08x", p, at, got, want)
			}
		}
		if r := rank(change); r != 32 {
			t.Fatalf("P1.3: bits from %d on change sums in only %d ways that hang on no other", at, r)
		}
	}
}

// rank is how many of l are no xor of others of it.
func rank(l [32]uint32) int {
	found := 0
	for bit := range 32 {
		at := found
		for at < len(l) && l[at]>>bit&1 == 0 {
			at++
		}
		if at == len(l) {
			continue
		}
		l[found], l[at] = l[at], l[found]
		for k := range l {
			if k != found && l[k]>>bit&1 == 1 {
				l[k] ^= l[found]
			}
		}
		found++
	}
	return found
}
