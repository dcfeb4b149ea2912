package sheet_test

import (
	"bytes"
	"fmt"
	"math"
	"slices"
	"testing"
)

// anyPlace is near the begin of a file, or near the end of the greatest one; rarely one that no file has.
func anyPlace(roll func(int) int) int {
	switch roll(40) {
	case 0:
		return below()[roll(len(below()))]
	case 1:
		return above()[roll(len(above()))]
	case 2, 3, 4, 5:
		return mostFile - roll(80)
	case 6, 7, 8, 9, 10, 11, 12:
		return block * roll(10)
	}
	return roll(160)
}

// anyMany is how many bytes: few most often.
func anyMany(roll func(int) int) int {
	switch roll(20) {
	case 0:
		return 0
	case 1:
		return block * roll(5)
	case 2:
		return roll(300)
	}
	return 1 + roll(40)
}

// anyBytes are n of them, of which some are 0.
func anyBytes(roll func(int) int, n int) []byte {
	b := make([]byte, n)
	for i := range b {
		if roll(4) > 0 {
			b[i] = byte(roll(256))
		}
	}
	return b
}

// anyAct does something that may change a file.
func anyAct(roll func(int) int, p *pair) {
	p.t.Helper()
	switch roll(10) {
	case 0, 1, 2, 3, 4:
		p.write(anyPlace(roll), anyBytes(roll, anyMany(roll)))
	case 5, 6:
		p.cut(anyPlace(roll))
	case 7, 8:
		p.punch(anyPlace(roll), anyMany(roll))
	default:
		p.punch(anyPlace(roll), anyPlace(roll))
	}
}

// Files to which much is done are by all calls what the chapter's words say, and so are their clones.
func TestOfManyCalls(t *testing.T) {
	for seed := range uint64(60) {
		roll := dice(1000 + seed)
		p := begin(t)
		p.did("seed %d", seed)
		var clones []*pair
		for range 120 {
			anyAct(roll, p)
			p.same()
			p.reads(anyPlace(roll), anyMany(roll))
			if roll(25) == 0 {
				p.reads(anyPlace(roll), anyPlace(roll))
				clones = append(clones, p)
				p = p.clone()
			}
		}
		for _, c := range clones {
			c.same()
			anyAct(roll, c)
			c.same()
		}
		p.same()
	}
}

// A write changes the bytes that are written and no others; what was written is read till it is written over, cut off or punched.
func TestNoOtherByteIsTouched(t *testing.T) {
	for seed := range uint64(300) {
		roll := dice(5000 + seed)
		p := begin(t).write(0, text(200))
		held := slices.Concat(text(200), make([]byte, 400))
		for range 20 {
			at, n := roll(300), roll(60)
			switch roll(3) {
			case 0:
				b := anyBytes(roll, n)
				p.write(at, b)
				copy(held[at:], b)
			case 1:
				p.punch(at, n)
				clear(held[at : at+n])
			default:
				size := p.s.Size()
				p.cut(size - min(size, roll(20)))
				clear(held[p.s.Size():])
			}
			if b := p.s.Read(0, math.MaxInt); !bytes.Equal(b, held[:len(b)]) || len(b) != p.s.Size() {
				p.fail("P16.4", "seed %d: Read is %q, not %q", seed, b, held[:len(b)])
			}
		}
	}
}

// Blocks is what the Runs are long, and never more than the Size has.
func TestBlocksAreNeverMoreThanTheSizeHas(t *testing.T) {
	for seed := range uint64(40) {
		roll := dice(9000 + seed)
		p := begin(t)
		for range 200 {
			anyAct(roll, p)
			many, before := 0, -2
			for _, run := range p.s.Runs() {
				if run[0] <= before+1 || run[1] < run[0] || run[1]*block >= p.s.Size() {
					p.fail("P16.3", "seed %d: Runs are %v, and Size is %d", seed, p.s.Runs(), p.s.Size())
				}
				many += run[1] - run[0] + 1
				before = run[1]
			}
			if p.s.Blocks() != many || many > (p.s.Size()+block-1)/block {
				p.fail("P16.4", "seed %d: Blocks is %d, Size is %d, Runs are %v", seed, p.s.Blocks(), p.s.Size(), p.s.Runs())
			}
		}
	}
}

// story is all that is told when much is done.
func story(t *testing.T, seed uint64) string {
	roll := dice(seed)
	p := begin(t)
	var told []byte
	for range 100 {
		anyAct(roll, p)
		told = fmt.Append(told, p.s.Size(), p.s.Blocks(), p.s.Runs(), p.s.Read(0, 200), p.s.Need(roll(300), text(roll(100))))
	}
	return string(told)
}

func TestTheSameCallsTellTheSame(t *testing.T) {
	for seed := range uint64(20) {
		want := story(t, seed)
		for range 3 {
			if story(t, seed) != want {
				t.Fatalf("R7: seed %d: the same calls tell something else", seed)
			}
		}
	}
}

// Calls that look change nothing.
func TestCallsThatLookChangeNothing(t *testing.T) {
	for seed := range uint64(20) {
		roll := dice(seed)
		p := begin(t)
		for range 20 {
			anyAct(roll, p)
			for range 5 {
				p.s.Need(anyPlace(roll), text(anyMany(roll)))
				p.s.Read(anyPlace(roll), anyMany(roll))
				p.s.Clone().Write(roll(99), text(9))
				p.s.Runs()
			}
			p.same()
		}
	}
}
