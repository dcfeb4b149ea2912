package sheet_test

import (
	"bytes"
	"fmt"
	"math"
	"slices"
	"strings"
	"testing"

	"harpsichord/sheet"
)

// The limits that the document names.
const (
	block    = 16
	mostFile = 1 << 20
)

// file is one by the chapter's words, byte by byte and block by block.
type file struct {
	size    int
	written map[int]byte
	there   map[int]bool
}

func newFile() *file {
	return &file{written: map[int]byte{}, there: map[int]bool{}}
}

// may tells whether two numbers and their sum are those that a file can have.
func may(at, n int) bool {
	return 0 <= at && at <= mostFile && 0 <= n && n <= mostFile && at+n <= mostFile
}

func (f *file) write(at int, b []byte) bool {
	if !may(at, len(b)) {
		return false
	}
	for i, x := range b {
		f.written[at+i] = x
		f.there[(at+i)/block] = true
		f.size = max(f.size, at+i+1)
	}
	return true
}

func (f *file) need(at int, b []byte) int {
	g := f.clone()
	g.write(at, b)
	return len(g.there) - len(f.there)
}

func (f *file) read(at, n int) []byte {
	var b []byte
	for p := at; at >= 0 && p-at < n && p < f.size; p++ {
		b = append(b, f.written[p])
	}
	return b
}

func (f *file) cut(n int) bool {
	if n < 0 || n > mostFile {
		return false
	}
	for p := range f.written {
		if p >= n {
			delete(f.written, p)
		}
	}
	for k := range f.there {
		if k*block >= n {
			delete(f.there, k)
		}
	}
	f.size = n
	return true
}

func (f *file) punch(at, n int) bool {
	if !may(at, n) {
		return false
	}
	for p := range f.written {
		if at <= p && p < at+n {
			delete(f.written, p)
		}
	}
	for k := range f.there {
		begin, end := k*block, min((k+1)*block, f.size)
		if at <= begin && end <= at+n {
			delete(f.there, k)
		}
	}
	return true
}

func (f *file) runs() [][2]int {
	var l [][2]int
	for k := range f.there {
		if f.there[k-1] {
			continue
		}
		last := k
		for f.there[last+1] {
			last++
		}
		l = append(l, [2]int{k, last})
	}
	slices.SortFunc(l, func(a, b [2]int) int { return a[0] - b[0] })
	return l
}

func (f *file) clone() *file {
	g := newFile()
	g.size = f.size
	for p, x := range f.written {
		g.written[p] = x
	}
	for k := range f.there {
		g.there[k] = true
	}
	return g
}

// pair is a sheet, and a file to which the same is done.
type pair struct {
	t    *testing.T
	s    *sheet.Sheet
	f    *file
	done []string
}

func begin(t *testing.T) *pair {
	t.Helper()
	s := sheet.New()
	if s == nil {
		t.Fatal("P16.1: New is nothing")
	}
	return &pair{t: t, s: s, f: newFile()}
}

// did notes a call.
func (p *pair) did(format string, args ...any) {
	p.done = append(p.done, fmt.Sprintf(format, args...))
}

// fail tells what was done last, and what is wrong.
func (p *pair) fail(promise, format string, args ...any) {
	p.t.Helper()
	l := p.done[max(0, len(p.done)-12):]
	p.t.Fatalf("%s: behind %s: %s", promise, strings.Join(l, ", "), fmt.Sprintf(format, args...))
}

// said asks that a call answered what it should.
func (p *pair) said(promise string, is, want bool) {
	p.t.Helper()
	if is != want {
		p.fail(promise, "%v", is)
	}
}

func (p *pair) write(at int, b []byte) *pair {
	p.t.Helper()
	need, blocks := p.s.Need(at, b), p.s.Blocks()
	if want := p.f.need(at, b); need != want {
		p.fail("P16.2", "Need(%d, %d bytes) is %d, not %d", at, len(b), need, want)
	}
	p.did("Write(%d, %d bytes)", at, len(b))
	p.said("P16.2", p.s.Write(at, b), p.f.write(at, b))
	if p.s.Blocks() != blocks+need {
		p.fail("P16.2", "Blocks is %d, was %d, and Need was %d", p.s.Blocks(), blocks, need)
	}
	return p
}

func (p *pair) cut(n int) *pair {
	p.t.Helper()
	p.did("Cut(%d)", n)
	p.said("P16.3", p.s.Cut(n), p.f.cut(n))
	return p
}

func (p *pair) punch(at, n int) *pair {
	p.t.Helper()
	p.did("Punch(%d, %d)", at, n)
	p.said("P16.3", p.s.Punch(at, n), p.f.punch(at, n))
	return p
}

// clone is another pair, which goes on by itself.
func (p *pair) clone() *pair {
	p.t.Helper()
	s := p.s.Clone()
	if s == nil {
		p.fail("P16.3", "Clone is nothing")
	}
	return &pair{p.t, s, p.f.clone(), slices.Concat(p.done, []string{"Clone"})}
}

// reads asks for what is read there.
func (p *pair) reads(at, n int) {
	p.t.Helper()
	if b, want := p.s.Read(at, n), p.f.read(at, n); !bytes.Equal(b, want) {
		p.fail("P16.2", "Read(%d, %d) is %.200q, not %.200q", at, n, b, want)
	}
}

// same asks for all that the calls tell which look.
func (p *pair) same() *pair {
	p.t.Helper()
	if p.s.Size() != p.f.size {
		p.fail("P16.1", "Size is %d, not %d", p.s.Size(), p.f.size)
	}
	if p.s.Blocks() != len(p.f.there) {
		p.fail("P16.1", "Blocks is %d, not %d", p.s.Blocks(), len(p.f.there))
	}
	if p.s.Blocks() > (p.s.Size()+block-1)/block {
		p.fail("P16.4", "Blocks is %d, and Size %d", p.s.Blocks(), p.s.Size())
	}
	if l, want := p.s.Runs(), p.f.runs(); !slices.Equal(l, want) {
		p.fail("P16.3", "Runs are %v, not %v", l, want)
	}
	for k := range p.f.there {
		p.reads(max(0, k-1)*block, 3*block)
	}
	p.reads(0, 300)
	p.reads(max(0, p.f.size-100), 100)
	p.reads(max(0, p.f.size-1), math.MaxInt)
	return p
}

// text are n bytes, none of them 0, of which those that stand near each other differ.
func text(n int) []byte {
	b := make([]byte, n)
	for i := range b {
		b[i] = byte(1 + i%251)
	}
	return b
}

// files are some of all kinds, each a fresh one: without bytes, with holes alone, with blocks alone, with both, that end at a border or beside it.
func files(t *testing.T) []*pair {
	t.Helper()
	var l []*pair
	for _, n := range []int{0, 1, 15, 16, 17, 32, 50} {
		l = append(l, begin(t).cut(n), begin(t).write(0, text(n)))
	}
	return append(l,
		begin(t).write(40, []byte("ab")),
		begin(t).write(40, []byte("ab")).cut(50),
		begin(t).write(40, []byte("ab")).cut(48),
		begin(t).write(40, []byte("ab")).cut(200),
		begin(t).write(0, text(64)).punch(16, 32),
		begin(t).write(0, text(16)).write(33, text(1)).write(64, text(40)),
		begin(t).write(5, text(60)).cut(37).cut(90),
		begin(t).write(0, text(120)).punch(20, 50),
		begin(t).write(3, make([]byte, 30)),
	)
}

// great are files that are as long as can be, or nearly so.
func great(t *testing.T) []*pair {
	t.Helper()
	return []*pair{
		begin(t).cut(mostFile),
		begin(t).cut(mostFile - 1),
		begin(t).write(mostFile-1, text(1)),
		begin(t).write(mostFile-40, text(40)),
		begin(t).write(0, text(20)).write(mostFile-35, text(30)),
		begin(t).write(0, text(20)).write(mostFile-50, text(10)).cut(mostFile),
	}
}

// below are numbers below 0.
func below() []int {
	return []int{-1, -2, -15, -16, -17, -mostFile, -mostFile - 1, math.MinInt32, math.MinInt + 1, math.MinInt}
}

// above are numbers above MaxFile.
func above() []int {
	return []int{mostFile + 1, mostFile + 2, mostFile + 16, 2 * mostFile, math.MaxInt32, 1 << 32, 1<<32 + 5, 1 << 62, math.MaxInt - 16, math.MaxInt - 1, math.MaxInt}
}

// dice tells numbers below n, always the same ones for a seed.
func dice(seed uint64) func(n int) int {
	x := seed
	return func(n int) int {
		x = x*6364136223846793005 + 1442695040888963407
		return int(x>>33) % n
	}
}
