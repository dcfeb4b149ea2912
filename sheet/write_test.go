package sheet_test

import (
	"bytes"
	"math"
	"slices"
	"testing"

	"harpsichord/sheet"
)

// The first example of the chapter.
func TestExampleOfWrite(t *testing.T) {
	s := sheet.New()
	if !s.Write(40, []byte("ab")) || s.Size() != 42 || s.Blocks() != 1 {
		t.Errorf("P16.2: Size is %d, Blocks is %d", s.Size(), s.Blocks())
	}
	if b := s.Read(39, 9); string(b) != "\x00ab" {
		t.Errorf("P16.2: Read(39, 9) is %q", b)
	}
}

// The second one, which goes on with it.
func TestExampleOfCut(t *testing.T) {
	s := sheet.New()
	s.Write(40, []byte("ab"))
	if !s.Cut(41) || !s.Cut(50) {
		t.Error("P16.3: Cut is false")
	}
	if b := s.Read(40, 2); string(b) != "a\x00" {
		t.Errorf("P16.3: Read(40, 2) is %q", b)
	}
	if l := s.Runs(); !slices.Equal(l, [][2]int{{2, 2}}) {
		t.Errorf("P16.3: Runs are %v", l)
	}
}

func TestNew(t *testing.T) {
	s := sheet.New()
	if s == nil {
		t.Fatal("P16.1: New is nothing")
	}
	if s.Size() != 0 || s.Blocks() != 0 || len(s.Runs()) != 0 || len(s.Read(0, 1)) != 0 {
		t.Errorf("P16.1: Size is %d, Blocks is %d, Runs are %v", s.Size(), s.Blocks(), s.Runs())
	}
	if s == sheet.New() {
		t.Error("R6: New is twice the same")
	}
}

// refused asks that a Write is false, that no block is needed for it, and that it does nothing.
func refused(p *pair, at int, b []byte) {
	p.t.Helper()
	if n := p.s.Need(at, b); n != 0 {
		p.fail("P16.2", "Need(%d, %d bytes) is %d", at, len(b), n)
	}
	if p.s.Write(at, b) {
		p.fail("P16.2", "Write(%d, %d bytes) is true", at, len(b))
	}
}

func TestWriteOfWhatNoFileHas(t *testing.T) {
	for _, p := range slices.Concat(files(t), great(t)) {
		for _, n := range []int{0, 1, 2, 16, 17, 50} {
			for _, at := range slices.Concat(below(), above()) {
				refused(p, at, text(n))
			}
			for more := 1; more <= n; more++ {
				refused(p, mostFile-n+more, text(n))
			}
		}
		p.same()
	}
}

// Of so many bytes that they alone are too many, or no file has more.
func TestWriteOfVeryMany(t *testing.T) {
	most := text(mostFile)
	for _, p := range files(t)[:4] {
		for _, at := range []int{1, 2, 16, mostFile, math.MaxInt - mostFile + 1, math.MaxInt} {
			refused(p, at, most)
		}
		refused(p, 0, text(mostFile+1))
		refused(p, 0, text(2*mostFile))
		p.same()
	}
	s := sheet.New()
	if n := s.Need(0, most); n != mostFile/block {
		t.Errorf("P16.2: Need is %d", n)
	}
	if !s.Write(0, most) || s.Size() != mostFile || s.Blocks() != mostFile/block || !bytes.Equal(s.Read(0, mostFile), most) {
		t.Errorf("P16.2: Size is %d, Blocks is %d", s.Size(), s.Blocks())
	}
	if l := s.Runs(); !slices.Equal(l, [][2]int{{0, mostFile/block - 1}}) {
		t.Errorf("P16.3: Runs are %.200v", l)
	}
	if n := s.Need(0, most); n != 0 {
		t.Errorf("P16.2: Need of all blocks that are there is %d", n)
	}
}

// The sum of both is just MaxFile.
func TestWriteToTheLastByte(t *testing.T) {
	for _, n := range []int{0, 1, 2, 15, 16, 17, 31, 32, 33, 50} {
		for _, p := range slices.Concat(files(t), great(t)) {
			p.write(mostFile-n, text(n)).same()
			if n > 0 && p.s.Size() != mostFile {
				p.fail("P16.2", "Size is %d", p.s.Size())
			}
		}
	}
}

func TestWriteOfNoByte(t *testing.T) {
	for _, p := range slices.Concat(files(t), great(t)) {
		size, blocks := p.s.Size(), p.s.Blocks()
		for _, at := range []int{0, 1, 15, 16, 17, 40, size, size + 1, size + 99, mostFile - 1, mostFile} {
			for _, b := range [][]byte{nil, {}, text(9)[:0]} {
				if at <= mostFile && !p.s.Write(at, b) {
					p.fail("P16.2", "Write(%d, no byte) is false", at)
				}
				if n := p.s.Need(at, b); n != 0 {
					p.fail("P16.2", "Need(%d, no byte) is %d", at, n)
				}
				if p.s.Size() != size || p.s.Blocks() != blocks {
					p.fail("P16.2", "Write(%d, no byte): Size is %d, Blocks is %d", at, p.s.Size(), p.s.Blocks())
				}
			}
		}
		p.same()
	}
}

// Within a block, over borders, on holes and on blocks, inside of the file, over its end and behind it.
func TestWriteOfAllSmallOnes(t *testing.T) {
	for k := range files(t) {
		from := files(t)[k]
		for at := range 70 {
			for n := range 52 {
				from.clone().write(at, text(n)).same()
			}
		}
	}
}

func TestWhichBlocksAreMade(t *testing.T) {
	for _, x := range []struct{ at, n, first, last int }{
		{0, 1, 0, 0}, {15, 1, 0, 0}, {16, 1, 1, 1}, {0, 16, 0, 0}, {3, 9, 0, 0}, {16, 16, 1, 1},
		{15, 2, 0, 1}, {0, 17, 0, 1}, {31, 2, 1, 2}, {16, 32, 1, 2},
		{15, 18, 0, 2}, {0, 48, 0, 2}, {1, 48, 0, 3}, {31, 34, 1, 4}, {100, 100, 6, 12},
	} {
		s := sheet.New()
		if n := s.Need(x.at, text(x.n)); n != x.last-x.first+1 {
			t.Errorf("P16.2: Need(%d, %d bytes) is %d", x.at, x.n, n)
		}
		if !s.Write(x.at, text(x.n)) || !slices.Equal(s.Runs(), [][2]int{{x.first, x.last}}) || s.Blocks() != x.last-x.first+1 || s.Size() != x.at+x.n {
			t.Errorf("P16.2: Write(%d, %d bytes): Runs are %v, Blocks is %d, Size is %d", x.at, x.n, s.Runs(), s.Blocks(), s.Size())
		}
	}
}

func TestNeedOnHolesAndBlocks(t *testing.T) {
	p := begin(t).write(0, text(96)).punch(16, 16).punch(64, 32).cut(200) // blocks 0, 2 and 3
	for _, x := range []struct{ at, n, need int }{
		{0, 16, 0}, {0, 17, 1}, {0, 33, 1}, {15, 1, 0}, {16, 16, 1}, {20, 1, 1}, {31, 2, 1}, {32, 32, 0}, {32, 33, 1},
		{0, 96, 3}, {0, 97, 4}, {63, 2, 1}, {60, 40, 3}, {190, 2, 1}, {190, 5, 2}, {190, 50, 4}, {200, 9, 2}, {208, 9, 1}, {1000, 1, 1}, {1000, 20, 2},
	} {
		if n := p.s.Need(x.at, text(x.n)); n != x.need {
			t.Errorf("P16.2: Need(%d, %d bytes) is %d, not %d", x.at, x.n, n, x.need)
		}
	}
	p.same()
}

// Bytes 0 that are written make blocks, as all others do.
func TestWriteOfBytes0(t *testing.T) {
	s := sheet.New()
	if n := s.Need(10, make([]byte, 30)); n != 3 {
		t.Errorf("P16.2: Need is %d", n)
	}
	if !s.Write(10, make([]byte, 30)) || s.Size() != 40 || s.Blocks() != 3 || !slices.Equal(s.Runs(), [][2]int{{0, 2}}) {
		t.Errorf("P16.2: Size is %d, Runs are %v", s.Size(), s.Runs())
	}
	s.Cut(100)
	if !s.Write(60, []byte{0}) || s.Size() != 100 || !slices.Equal(s.Runs(), [][2]int{{0, 3}}) {
		t.Errorf("P16.2: in a hole: Size is %d, Runs are %v", s.Size(), s.Runs())
	}
	s.Write(60, []byte("x"))
	s.Write(60, []byte{0})
	if b := s.Read(59, 3); string(b) != "\x00\x00\x00" || s.Blocks() != 4 {
		t.Errorf("P16.2: over another one: %q, and Blocks is %d", b, s.Blocks())
	}
}

// Every byte is written as it is.
func TestWriteOfEachByte(t *testing.T) {
	var all []byte
	for x := range 256 {
		all = append(all, byte(x))
	}
	s := sheet.New()
	if !s.Write(7, all) || !bytes.Equal(s.Read(7, 256), all) || s.Size() != 263 {
		t.Errorf("P16.2: Read is %q", s.Read(7, 256))
	}
}

func TestWhatIsWrittenStaysAsItWas(t *testing.T) {
	for _, at := range []int{0, 5, 16, 31, mostFile - 40, mostFile - 39, -1, math.MaxInt} {
		all := text(60)
		s := sheet.New()
		s.Need(at, all[:40])
		s.Write(at, all[:40])
		s.Cut(20)
		s.Punch(0, 99)
		s.Write(10, []byte("abc"))
		if !bytes.Equal(all, text(60)) {
			t.Errorf("R5: Write(%d): the bytes that were given are %q", at, all)
		}
	}
}

func TestWhatIsWrittenIsNotKept(t *testing.T) {
	for _, n := range []int{1, 15, 16, 17, 32, 40, 64} {
		b := text(n)
		s := sheet.New()
		s.Need(16, b)
		s.Write(16, b)
		clear(b)
		if !bytes.Equal(s.Read(16, n), text(n)) {
			t.Errorf("R6: what is done to %d bytes that were written is seen: %q", n, s.Read(16, n))
		}
	}
}

// A write that begins far behind the end lets bytes 0 and holes be between.
func TestWriteBehindTheEnd(t *testing.T) {
	p := begin(t).write(3, text(4)).write(70, text(3)).same()
	if b := p.s.Read(7, 63); !bytes.Equal(b, make([]byte, 63)) {
		t.Errorf("P16.2: between are %q", b)
	}
	if l := p.s.Runs(); !slices.Equal(l, [][2]int{{0, 0}, {4, 4}}) {
		t.Errorf("P16.3: Runs are %v", l)
	}
}
