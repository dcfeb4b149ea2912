package sheet_test

import (
	"bytes"
	"math"
	"slices"
	"testing"

	"harpsichord/sheet"
)

func TestReadBelow0(t *testing.T) {
	for _, p := range slices.Concat(files(t), great(t)) {
		for _, low := range below() {
			for _, x := range slices.Concat([]int{0, 1, 5, 16, mostFile}, below(), above()) {
				if b := p.s.Read(low, x); len(b) != 0 {
					p.fail("P16.2", "Read(%d, %d) is %.200q", low, x, b)
				}
				if b := p.s.Read(x, low); len(b) != 0 {
					p.fail("P16.2", "Read(%d, %d) is %.200q", x, low, b)
				}
			}
		}
		p.same()
	}
}

func TestReadOfNoByte(t *testing.T) {
	for _, p := range slices.Concat(files(t), great(t)) {
		for _, at := range slices.Concat([]int{0, 1, 16, 40, p.s.Size(), mostFile}, above()) {
			if b := p.s.Read(at, 0); len(b) != 0 {
				p.fail("P16.2", "Read(%d, 0) is %.200q", at, b)
			}
		}
	}
}

func TestReadFromBehindTheEnd(t *testing.T) {
	for _, p := range slices.Concat(files(t), great(t)) {
		size := p.s.Size()
		for _, at := range slices.Concat([]int{size, size + 1, size + 15, size + 16, size + 17}, above()) {
			for _, n := range slices.Concat([]int{1, 5, 16, 17, mostFile}, above()) {
				if b := p.s.Read(at, n); len(b) != 0 {
					p.fail("P16.2", "Read(%d, %d) is %.200q", at, n, b)
				}
			}
		}
	}
}

// All of a file is read, however many bytes more are asked for.
func TestReadOfMoreThanThereIs(t *testing.T) {
	for _, p := range files(t) {
		size := p.s.Size()
		for at := range size {
			for _, n := range slices.Concat([]int{size - at, size - at + 1, size, size + 16, mostFile}, above()) {
				if b := p.s.Read(at, n); !bytes.Equal(b, p.f.read(at, size)) || len(b) != size-at {
					p.fail("P16.2", "Read(%d, %d) is %.200q", at, n, b)
				}
			}
		}
	}
	for _, p := range great(t) {
		for _, n := range []int{mostFile, mostFile + 1, math.MaxInt} {
			if b := p.s.Read(0, n); len(b) != p.s.Size() {
				p.fail("P16.2", "Read(0, %d) has %d bytes", n, len(b))
			}
		}
	}
}

// Over holes and blocks, from each byte on.
func TestReadOfAllSmallOnes(t *testing.T) {
	for _, p := range files(t) {
		for at := range 110 {
			for n := range 110 {
				p.reads(at, n)
			}
		}
		p.same()
	}
}

func TestReadOfHoles(t *testing.T) {
	s := sheet.New()
	s.Cut(100)
	if b := s.Read(0, 200); !bytes.Equal(b, make([]byte, 100)) || s.Blocks() != 0 {
		t.Errorf("P16.2: of holes alone: %q, and Blocks is %d", b, s.Blocks())
	}
	s.Write(20, []byte("ab"))
	s.Write(60, []byte("c"))
	want := make([]byte, 100)
	want[20], want[21], want[60] = 'a', 'b', 'c'
	if b := s.Read(0, 200); !bytes.Equal(b, want) {
		t.Errorf("P16.2: of holes and blocks: %q", b)
	}
	if s.Blocks() != 2 {
		t.Errorf("P16.2: Read makes blocks: %v", s.Runs())
	}
}

// What is told is in memory of its own: to write into it, and behind it, changes nothing else.
func TestWhatIsReadIsTheCallersOwn(t *testing.T) {
	for _, p := range files(t) {
		for _, n := range []int{1, 15, 16, 17, 40, 200} {
			one, other := p.s.Read(0, n), p.s.Read(0, n)
			for i := range one {
				one[i] ^= 0xff
			}
			_ = append(one, "behind"...)
			if !bytes.Equal(other, p.f.read(0, n)) {
				p.fail("R6", "what is done to one answer is seen in another one: %q", other)
			}
			p.same()
		}
	}
}

// What was read stays as it was, whatever is done to the file.
func TestWhatWasReadStays(t *testing.T) {
	s := sheet.New()
	s.Write(0, text(60))
	b := s.Read(0, 60)
	s.Write(0, make([]byte, 20))
	s.Punch(20, 20)
	s.Cut(0)
	if !bytes.Equal(b, text(60)) {
		t.Errorf("R6: what was read is %q", b)
	}
}

// What was read can be written again, even at another place of the same file.
func TestWriteOfWhatWasRead(t *testing.T) {
	s := sheet.New()
	s.Write(0, text(40))
	s.Write(20, s.Read(0, 40))
	if b := s.Read(0, 99); !bytes.Equal(b, slices.Concat(text(20), text(40))) {
		t.Errorf("P16.2: Read is %q", b)
	}
}
