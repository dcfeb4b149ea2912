package sheet_test

import (
	"bytes"
	"slices"
	"testing"

	"harpsichord/sheet"
)

// with is a file in which a byte of each of these blocks was written.
func with(blocks ...int) *sheet.Sheet {
	s := sheet.New()
	for _, k := range blocks {
		s.Write(k*block+k%block, []byte("x"))
	}
	return s
}

func TestRuns(t *testing.T) {
	last := mostFile/block - 1
	for _, x := range []struct {
		blocks []int
		runs   [][2]int
	}{
		{nil, nil},
		{[]int{0}, [][2]int{{0, 0}}},
		{[]int{7}, [][2]int{{7, 7}}},
		{[]int{last}, [][2]int{{last, last}}},
		{[]int{3, 4}, [][2]int{{3, 4}}},
		{[]int{4, 3, 5}, [][2]int{{3, 5}}},
		{[]int{3, 5}, [][2]int{{3, 3}, {5, 5}}},
		{[]int{9, 0, 8, 1}, [][2]int{{0, 1}, {8, 9}}},
		{[]int{0, 2, 4, 6}, [][2]int{{0, 0}, {2, 2}, {4, 4}, {6, 6}}},
		{[]int{100, 20, 3, 21, 99}, [][2]int{{3, 3}, {20, 21}, {99, 100}}},
		{[]int{5, 5, 5}, [][2]int{{5, 5}}},
		{[]int{0, last, last - 1, 1, 2}, [][2]int{{0, 2}, {last - 1, last}}},
		{[]int{9, 10, 1}, [][2]int{{1, 1}, {9, 10}}},
	} {
		s := with(x.blocks...)
		if l := s.Runs(); !slices.Equal(l, x.runs) {
			t.Errorf("P16.3: of blocks %v Runs are %v, not %v", x.blocks, l, x.runs)
		}
		many := 0
		for _, run := range x.runs {
			many += run[1] - run[0] + 1
		}
		if s.Blocks() != many {
			t.Errorf("P16.1: of blocks %v Blocks is %d", x.blocks, s.Blocks())
		}
	}
}

// Of all sets of 10 blocks.
func TestRunsOfAllSmallSets(t *testing.T) {
	for set := range 1 << 10 {
		p := begin(t)
		for at := range 10 {
			if k := at * 7 % 10; set>>k&1 == 1 {
				p.write(k*block+at, text(1))
			}
		}
		p.same()
	}
}

func TestRunsOfVeryMany(t *testing.T) {
	s := sheet.New()
	var want [][2]int
	for k := mostFile/block - 2; k >= 0; k -= 2 {
		s.Write(k*block, []byte("x"))
		want = append(want, [2]int{k, k})
	}
	slices.Reverse(want)
	if l := s.Runs(); !slices.Equal(l, want) || s.Blocks() != len(want) {
		t.Errorf("P16.3: of each second block there are %d Runs, and Blocks is %d", len(l), s.Blocks())
	}
}

// However the blocks came to be there, and however often it is asked.
func TestRunsAreTheSameAlways(t *testing.T) {
	roll := dice(3)
	for range 50 {
		var blocks []int
		for range 30 {
			blocks = append(blocks, roll(50))
		}
		want := with(blocks...).Runs()
		slices.Reverse(blocks)
		s := with(blocks...)
		for range 5 {
			if l := s.Runs(); !slices.Equal(l, want) {
				t.Fatalf("R7: of blocks %v Runs are %v, and were %v", blocks, l, want)
			}
		}
	}
}

func TestRunsAreTheCallersOwn(t *testing.T) {
	s := with(3, 4, 9)
	l := s.Runs()
	for at := range l {
		l[at] = [2]int{-1, -1}
	}
	_ = append(l, [2]int{7, 7})
	if got := s.Runs(); !slices.Equal(got, [][2]int{{3, 4}, {9, 9}}) || s.Blocks() != 3 {
		t.Errorf("R6: Runs are %v", got)
	}
	l = s.Runs()
	s.Cut(0)
	if !slices.Equal(l, [][2]int{{3, 4}, {9, 9}}) {
		t.Errorf("R6: Runs that were told are %v", l)
	}
}

func TestClone(t *testing.T) {
	for _, p := range slices.Concat(files(t), great(t)) {
		c := p.clone()
		if c.s == p.s {
			p.fail("P16.3", "Clone is the file itself")
		}
		c.same()
		p.same()
		if !slices.Equal(c.s.Runs(), p.s.Runs()) || !bytes.Equal(c.s.Read(0, mostFile), p.s.Read(0, mostFile)) {
			p.fail("P16.3", "Clone has other blocks or bytes")
		}
	}
}

// acts are all ways to change a file.
func acts() []func(*pair) {
	return []func(*pair){
		func(p *pair) { p.write(0, []byte("changed")) },
		func(p *pair) { p.write(14, []byte("changed")) },
		func(p *pair) { p.write(1000, []byte("changed")) },
		func(p *pair) { p.write(mostFile-3, []byte("new")) },
		func(p *pair) { p.cut(0) },
		func(p *pair) { p.cut(7) },
		func(p *pair) { p.cut(5000) },
		func(p *pair) { p.punch(0, 16) },
		func(p *pair) { p.punch(3, 5) },
		func(p *pair) { p.punch(1, mostFile-1) },
	}
}

// What is done to one is not seen at the other, whichever it is; nor at a Clone of a Clone.
func TestCloneIsOfItsOwn(t *testing.T) {
	for k := range files(t) {
		for _, act := range acts() {
			p := files(t)[k]
			c := p.clone()
			other := c.clone()
			act(p)
			c.same()
			p.same()
			act(other)
			c.same()
			other.same()
			for _, again := range acts() {
				again(c)
				c.same()
				p.same()
				other.same()
			}
		}
	}
}

func TestTwoFilesDoNotTouchEachOther(t *testing.T) {
	for _, act := range acts() {
		p, q := begin(t).write(0, text(40)), begin(t).write(0, text(40))
		act(p)
		q.same()
		act(q)
		for _, again := range acts() {
			again(q)
			p.same()
			q.same()
		}
	}
}
