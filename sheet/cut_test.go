package sheet_test

import (
	"bytes"
	"math"
	"slices"
	"testing"

	"harpsichord/sheet"
)

func TestCutOfWhatNoFileHas(t *testing.T) {
	for _, p := range slices.Concat(files(t), great(t)) {
		for _, n := range slices.Concat(below(), above()) {
			if p.s.Cut(n) {
				p.fail("P16.3", "Cut(%d) is true", n)
			}
		}
		p.same()
	}
}

// To each Size, shorter, the same and longer; and longer again, where what was cut off is 0.
func TestCutOfAllSmallOnes(t *testing.T) {
	for k := range files(t) {
		from := files(t)[k]
		for n := range 130 {
			p := from.clone().cut(n).same()
			for _, longer := range []int{n + 1, n + 15, n + 16, 130, mostFile} {
				p.clone().cut(longer).same()
			}
		}
	}
}

func TestCutToTheSameSize(t *testing.T) {
	for _, p := range slices.Concat(files(t), great(t)) {
		size, blocks := p.s.Size(), p.s.Blocks()
		if !p.s.Cut(size) || p.s.Size() != size || p.s.Blocks() != blocks {
			p.fail("P16.3", "Cut(%d): Size is %d, Blocks is %d, was %d", size, p.s.Size(), p.s.Blocks(), blocks)
		}
		p.same()
	}
}

func TestCutTo0(t *testing.T) {
	for _, p := range slices.Concat(files(t), great(t)) {
		if !p.s.Cut(0) || p.s.Size() != 0 || p.s.Blocks() != 0 || len(p.s.Runs()) != 0 || len(p.s.Read(0, 9)) != 0 {
			p.fail("P16.3", "Cut(0): Size is %d, Runs are %v", p.s.Size(), p.s.Runs())
		}
		if !p.s.Cut(mostFile) || p.s.Size() != mostFile || p.s.Blocks() != 0 || !bytes.Equal(p.s.Read(0, mostFile), make([]byte, mostFile)) {
			p.fail("P16.3", "Cut(MaxFile): Size is %d, Runs are %v", p.s.Size(), p.s.Runs())
		}
	}
}

func TestCutToMaxFile(t *testing.T) {
	for _, p := range slices.Concat(files(t), great(t)) {
		p.cut(mostFile).same().cut(mostFile - 1).same().cut(mostFile - 16).same().cut(mostFile - 17).same().cut(mostFile).same()
	}
}

// The block in which n lies stays there, whatever is left of it; those that begin at n or behind it are holes.
func TestWhichBlocksACutLeaves(t *testing.T) {
	for _, x := range []struct{ n, blocks int }{
		{64, 4}, {63, 4}, {49, 4}, {48, 3}, {47, 3}, {33, 3}, {32, 2}, {17, 2}, {16, 1}, {15, 1}, {1, 1}, {0, 0},
	} {
		s := sheet.New()
		s.Write(0, text(64))
		if !s.Cut(x.n) || s.Blocks() != x.blocks || s.Size() != x.n || !bytes.Equal(s.Read(0, 99), text(64)[:x.n]) {
			t.Errorf("P16.3: Cut(%d): Runs are %v, Size is %d", x.n, s.Runs(), s.Size())
		}
	}
}

// It stays there even if none of its bytes that were written is left.
func TestCutAheadOfWhatWasWritten(t *testing.T) {
	s := sheet.New()
	s.Write(40, []byte("ab"))
	if !s.Cut(33) || !slices.Equal(s.Runs(), [][2]int{{2, 2}}) {
		t.Errorf("P16.3: Cut(33): Runs are %v", s.Runs())
	}
	if !s.Cut(60) || !bytes.Equal(s.Read(0, 99), make([]byte, 60)) || s.Blocks() != 1 {
		t.Errorf("P16.3: Read is %q, Runs are %v", s.Read(0, 99), s.Runs())
	}
	if !s.Cut(32) || s.Blocks() != 0 {
		t.Errorf("P16.3: Cut(32): Runs are %v", s.Runs())
	}
}

// What was cut off is 0 when the file is longer again, by a Cut or by a Write behind it.
func TestWhatWasCutOffIs0(t *testing.T) {
	for n := range 65 {
		p := begin(t).write(0, text(64)).cut(n)
		p.clone().cut(64).same()
		p.clone().write(63, text(1)).same()
		p.write(80, text(1)).same()
		if b := p.s.Read(n, 80-n); !bytes.Equal(b, make([]byte, 80-n)) {
			p.fail("P16.3", "Read(%d, %d) is %q", n, 80-n, b)
		}
	}
}

// punchRefused asks that a Punch is false.
func punchRefused(p *pair, at, n int) {
	p.t.Helper()
	if p.s.Punch(at, n) {
		p.fail("P16.3", "Punch(%d, %d) is true", at, n)
	}
}

func TestPunchOfWhatNoFileHas(t *testing.T) {
	for _, p := range slices.Concat(files(t), great(t)) {
		for _, low := range below() {
			for _, x := range slices.Concat([]int{0, 1, 5, 16, -low, mostFile}, below(), above()) {
				punchRefused(p, low, x)
				if x >= 0 {
					punchRefused(p, x, low)
				}
			}
		}
		for _, high := range above() {
			for _, x := range slices.Concat([]int{0, 1, 5, 16, mostFile}, above()) {
				punchRefused(p, high, x)
				punchRefused(p, x, high)
			}
		}
		p.same()
	}
}

func TestPunchToMaxFile(t *testing.T) {
	for k := range slices.Concat(files(t), great(t)) {
		for _, at := range []int{0, 1, 5, 16, 40, 1000, mostFile - 50, mostFile - 33, mostFile - 32, mostFile - 16, mostFile - 5, mostFile - 1, mostFile} {
			p := slices.Concat(files(t), great(t))[k]
			for _, more := range []int{1, 2, 16, 17, mostFile, math.MaxInt - mostFile} {
				punchRefused(p, at, mostFile-at+more)
			}
			p.same().punch(at, mostFile-at).same()
		}
	}
}

func TestPunchOfNoByte(t *testing.T) {
	for _, p := range slices.Concat(files(t), great(t)) {
		for _, at := range []int{0, 1, 15, 16, 17, 32, 40, p.s.Size(), mostFile - 1, mostFile} {
			if !p.s.Punch(at, 0) {
				p.fail("P16.3", "Punch(%d, 0) is false", at)
			}
			p.same()
		}
	}
}

// Within a block, over several, to the end of the file and beyond it.
func TestPunchOfAllSmallOnes(t *testing.T) {
	for k := range files(t) {
		from := files(t)[k]
		for at := range 70 {
			for n := range 70 {
				from.clone().punch(at, n).same()
			}
		}
	}
}

func TestWhichBlocksAreHoles(t *testing.T) {
	for _, x := range []struct {
		at, n int
		runs  [][2]int
	}{
		{0, 16, [][2]int{{1, 3}}},
		{0, 15, [][2]int{{0, 3}}},
		{1, 15, [][2]int{{0, 3}}},
		{16, 16, [][2]int{{0, 0}, {2, 3}}},
		{15, 18, [][2]int{{0, 0}, {2, 3}}},
		{17, 30, [][2]int{{0, 3}}},
		{17, 31, [][2]int{{0, 1}, {3, 3}}},
		{0, 47, [][2]int{{2, 3}}},
		{0, 48, [][2]int{{3, 3}}},
		{0, 49, [][2]int{{3, 3}}},
		{48, 1, [][2]int{{0, 3}}},
		{48, 2, [][2]int{{0, 2}}},
		{48, 3, [][2]int{{0, 2}}},
		{48, 16, [][2]int{{0, 2}}},
		{48, 99, [][2]int{{0, 2}}},
		{49, 1, [][2]int{{0, 3}}},
		{49, 99, [][2]int{{0, 3}}},
		{47, 3, [][2]int{{0, 2}}},
		{33, 99, [][2]int{{0, 2}}},
		{50, 99, [][2]int{{0, 3}}},
		{0, 50, nil},
		{0, mostFile, nil},
	} {
		s := sheet.New()
		s.Write(0, text(50)) // the last block has 2 bytes
		if !s.Punch(x.at, x.n) || !slices.Equal(s.Runs(), x.runs) || s.Size() != 50 {
			t.Errorf("P16.3: Punch(%d, %d): Runs are %v, not %v; Size is %d", x.at, x.n, s.Runs(), x.runs, s.Size())
		}
		want := text(50)
		clear(want[x.at:min(x.at+x.n, 50)])
		if b := s.Read(0, 99); !bytes.Equal(b, want) {
			t.Errorf("P16.3: Punch(%d, %d): Read is %q", x.at, x.n, b)
		}
	}
}

// A block stays there with bytes 0, if it was punched bit by bit, and none of the bits was all of it.
func TestPunchBitByBit(t *testing.T) {
	s := sheet.New()
	s.Write(0, text(48))
	if !s.Punch(16, 8) || !s.Punch(24, 8) || s.Blocks() != 3 || !bytes.Equal(s.Read(16, 16), make([]byte, 16)) {
		t.Errorf("P16.3: Runs are %v, Read is %q", s.Runs(), s.Read(16, 16))
	}
	if !s.Punch(16, 16) || s.Blocks() != 2 {
		t.Errorf("P16.3: Runs are %v", s.Runs())
	}
}

// What is punched behind the end of the file makes nothing there, nor does what is punched in a hole.
func TestPunchOfWhatIsNotThere(t *testing.T) {
	p := begin(t).write(5, text(3))
	p.punch(8, 100).same().punch(20, 20).same().punch(mostFile, 0).same()
	p.cut(100).same().punch(40, 5).same().punch(16, 84).same()
	if p.s.Size() != 100 || p.s.Blocks() != 1 {
		t.Errorf("P16.3: Size is %d, Runs are %v", p.s.Size(), p.s.Runs())
	}
}

// A hole has room for a block again.
func TestWriteWhereItWasPunched(t *testing.T) {
	p := begin(t).write(0, text(64)).punch(16, 32)
	if n := p.s.Need(20, text(20)); n != 2 {
		t.Errorf("P16.2: Need is %d", n)
	}
	p.write(20, text(2)).same().write(47, text(1)).same()
	if l := p.s.Runs(); !slices.Equal(l, [][2]int{{0, 3}}) {
		t.Errorf("P16.3: Runs are %v", l)
	}
}

// All of the greatest file.
func TestPunchAndCutOfVeryMany(t *testing.T) {
	s := sheet.New()
	s.Write(0, text(mostFile))
	if !s.Punch(1, mostFile-2) || s.Blocks() != 2 || !slices.Equal(s.Runs(), [][2]int{{0, 0}, {mostFile/block - 1, mostFile/block - 1}}) {
		t.Errorf("P16.3: Punch of all but two bytes: Runs are %.200v", s.Runs())
	}
	want := make([]byte, mostFile)
	want[0], want[mostFile-1] = 1, text(mostFile)[mostFile-1]
	if !bytes.Equal(s.Read(0, mostFile), want) {
		t.Error("P16.3: Punch of all but two bytes: they, or others, are not there")
	}
	s.Write(0, text(mostFile))
	if !s.Cut(mostFile/2+1) || s.Blocks() != mostFile/block/2+1 || s.Size() != mostFile/2+1 {
		t.Errorf("P16.3: Cut: Blocks is %d, Size is %d", s.Blocks(), s.Size())
	}
}
