package fscore_test

import (
	"bytes"
	"fmt"
	"math"
	"slices"
	"strings"
	"testing"

	"harpsichord/api"
	"harpsichord/fscore"
)

// pair is a file system, and words to which the same is done.
type pair struct {
	t    *testing.T
	f    *fscore.Fs
	w    *words
	seen []handle // all that were ever told
	done []string // the last calls
}

func begin(t *testing.T, room int) *pair {
	t.Helper()
	f := fscore.New(room)
	if f == nil {
		t.Fatal("P17.1: New is nothing")
	}
	return &pair{t: t, f: f, w: newWords(room), seen: []handle{root}}
}

// fail tells what was done last, and what is wrong.
func (p *pair) fail(promise, format string, args ...any) {
	p.t.Helper()
	p.t.Fatalf("%s: behind %s: %s", promise, strings.Join(p.done, ", "), fmt.Sprintf(format, args...))
}

// did notes a call, and asks that it answered what it should.
func (p *pair) did(promise string, is, want api.Errno, format string, args ...any) api.Errno {
	p.t.Helper()
	p.done = append(p.done[max(0, len(p.done)-12):], fmt.Sprintf(format, args...))
	if is != want {
		p.fail(promise, "%d, not %d", is, want)
	}
	return is
}

func (p *pair) make(dir handle, name string, m fscore.Make) (handle, api.Errno) {
	p.t.Helper()
	h, e := p.f.Make(dir, name, m)
	want, err := p.w.make(dir, name, m)
	p.did("P17.2", e, err, "Make(%v, %.70q, %+v)", dir, name, m)
	if h != want {
		p.fail("P17.2", "%v, not %v", h, want)
	}
	if e == api.OK {
		p.seen = append(p.seen, h)
	}
	return h, e
}

func (p *pair) link(h, dir handle, name string) api.Errno {
	p.t.Helper()
	return p.did("P17.3", p.f.Link(h, dir, name), p.w.link(h, dir, name), "Link(%v, %v, %.70q)", h, dir, name)
}

func (p *pair) remove(dir handle, name string, isFolder bool) api.Errno {
	p.t.Helper()
	return p.did("P17.3", p.f.Remove(dir, name, isFolder), p.w.remove(dir, name, isFolder), "Remove(%v, %.70q, %v)", dir, name, isFolder)
}

func (p *pair) rename(from handle, name string, to handle, other string) api.Errno {
	p.t.Helper()
	return p.did("P17.4", p.f.Rename(from, name, to, other), p.w.rename(from, name, to, other), "Rename(%v, %.70q, %v, %.70q)", from, name, to, other)
}

func (p *pair) write(h handle, at int, b []byte, time int) api.Errno {
	p.t.Helper()
	return p.did("P17.5", p.f.Write(h, at, b, time), p.w.write(h, at, b, time), "Write(%v, %d, %d bytes, %d)", h, at, len(b), time)
}

func (p *pair) cut(h handle, n, time int) api.Errno {
	p.t.Helper()
	return p.did("P17.5", p.f.Cut(h, n, time), p.w.cut(h, n, time), "Cut(%v, %d, %d)", h, n, time)
}

// clone is another pair, which goes on by itself.
func (p *pair) clone() *pair {
	p.t.Helper()
	f := p.f.Clone()
	if f == nil {
		p.fail("P17.1", "Clone is nothing")
	}
	return &pair{p.t, f, p.w.clone(), slices.Clone(p.seen), slices.Concat(p.done, []string{"Clone"})}
}

// new makes what can be made, and tells its handle.
func (p *pair) new(dir handle, name string, kind int) handle {
	p.t.Helper()
	m := fscore.Make{Kind: kind, Mode: 0o600 + kind, Time: kind}
	if kind == link {
		m.Target = "to/" + name
	}
	h, e := p.make(dir, name, m)
	p.ok(e)
	return h
}

// ok asks that a call which is needed for others was none that is refused.
func (p *pair) ok(e api.Errno) {
	p.t.Helper()
	if e != api.OK {
		p.fail("P17.2", "it is refused: %d", e)
	}
}

// fill makes n of a kind in a folder, by their numbers.
func (p *pair) fill(dir handle, kind, n int) {
	p.t.Helper()
	for k := range n {
		p.new(dir, fmt.Sprint(kind, "-", k), kind)
	}
}

// looks asks for what has a name in a folder.
func (p *pair) looks(dir handle, name string) {
	p.t.Helper()
	h, e := p.f.Look(dir, name)
	if want, err := p.w.look(dir, name); h != want || e != err {
		p.fail("P17.1", "Look(%v, %.70q) is %v, %d, not %v, %d", dir, name, h, e, want, err)
	}
}

// reads asks for bytes of a file.
func (p *pair) reads(h handle, at, n int) {
	p.t.Helper()
	b, e := p.f.Read(h, at, n)
	if want, err := p.w.read(h, at, n); !bytes.Equal(b, want) || e != err {
		p.fail("P17.5", "Read(%v, %d, %d) is %.200q, %d, not %.200q, %d", h, at, n, b, e, want, err)
	}
}

// has asks for all that is told of one inode.
func (p *pair) has(h handle) {
	p.t.Helper()
	i, e := p.f.Stat(h)
	if want, err := p.w.stat(h); i != want || e != err {
		p.fail("P17.1", "Stat(%v) is %+v, %d, not %+v, %d", h, i, e, want, err)
	}
	l, e := p.f.List(h)
	if want, err := p.w.list(h); !slices.Equal(l, want) || e != err {
		p.fail("P17.1", "List(%v) is %.900q, %d, not %.900q, %d", h, l, e, want, err)
	}
	s, e := p.f.Target(h)
	if want, err := p.w.target(h); s != want || e != err {
		p.fail("P17.1", "Target(%v) is %q, %d, not %q, %d", h, s, e, want, err)
	}
	p.reads(h, 0, math.MaxInt)
	p.looks(h, ".")
	p.looks(h, "..")
	p.looks(h, "no such name")
	for _, name := range p.w.in(h) {
		p.looks(h, name)
	}
}

// same asks for all that the calls tell which look.
func (p *pair) same() *pair {
	p.t.Helper()
	for _, h := range p.seen {
		p.has(h)
	}
	p.frees()
	if h := p.f.Root(); h != root {
		p.fail("P17.1", "Root is %v", h)
	}
	return p
}

// frees asks for what is free.
func (p *pair) frees() {
	p.t.Helper()
	blocks, inodes := p.f.Free()
	if b, i := p.w.free(); blocks != b || inodes != i {
		p.fail("P17.1", "Free is %d, %d, not %d, %d", blocks, inodes, b, i)
	}
}

// sound asks for what P17.6 says, of the file system alone: that all hangs on the root, and that Links, blocks and inodes are as they are counted.
func (p *pair) sound() *pair {
	p.t.Helper()
	names := map[handle]int{}
	folders := map[handle]int{root: 0}
	for way := []handle{root}; len(way) > 0; way = way[1:] {
		l, _ := p.f.List(way[0])
		for _, name := range l {
			h, e := p.f.Look(way[0], name)
			if e != api.OK || h == root {
				p.fail("P17.6", "Look(%v, %.70q) is %v, %d", way[0], name, h, e)
			}
			names[h]++
			if i, _ := p.f.Stat(h); i.Kind == folder {
				folders[way[0]]++
				folders[h] = 0
				way = append(way, h)
				if up, _ := p.f.Look(h, ".."); up != way[0] || names[h] > 1 {
					p.fail("P17.6", "%v lies in %v, its parent is %v", h, way[0], up)
				}
			}
		}
	}
	blocks := 0
	names[root] = 1
	for h, n := range names {
		i, e := p.f.Stat(h)
		if in, is := folders[h]; is {
			n = 2 + in
		}
		if e != api.OK || i.Links != n || i.Links > mostLinks {
			p.fail("P17.6", "Stat(%v) is %+v, %d, and its Links are %d", h, i, e, n)
		}
		blocks += i.Blocks
	}
	if b, i := p.f.Free(); b != p.w.room-blocks || b < 0 || i != mostInodes-len(names) {
		p.fail("P17.6", "Free is %d, %d, and there are %d blocks and %d inodes", b, i, blocks, len(names))
	}
	return p
}

// text are n bytes, none of them 0, of which those that stand near each other differ.
func text(n int) []byte {
	b := make([]byte, n)
	for i := range b {
		b[i] = byte(1 + i%251)
	}
	return b
}

// long is a text of n bytes.
func long(n int) string {
	return strings.Repeat("x", n)
}

// noNames are texts that are no names, even to Look.
func noNames() []string {
	return []string{"", "/", "\x00", "a/b", "/a", "a/", "a\x00", "\x00a", "./", "../", "../a", long(mostName + 1), long(mostName) + "/", long(200), strings.Repeat("é", 31)}
}

// points are one and two of them.
func points() []string {
	return []string{".", ".."}
}

// oddNames are names that look as if they were none.
func oddNames() []string {
	return []string{"a", "...", ". ", " ", ".a", "..a", "a..", "\\", "\x01", "\xff", "\n", "0", "é", "\xc3", "no such\tname", long(mostName - 1), long(mostName), strings.Repeat("é", 30), strings.Repeat(".", mostName)}
}

// neverHad are handles that no file system tells which has made few inodes.
func neverHad() []handle {
	return []handle{
		none, {Id: 1}, {Gen: 1}, {Id: 1, Gen: 2}, {Id: 1, Gen: -1}, {Id: -1, Gen: 1}, {Id: -1, Gen: -1}, {Id: 150, Gen: 1}, {Id: 150},
		{Id: mostInodes, Gen: 1}, {Id: mostInodes}, {Id: mostInodes + 1, Gen: 1}, {Id: mostInodes + 1}, {Id: mostInodes + 2, Gen: 1}, {Id: 256, Gen: 1}, {Id: 257, Gen: 1},
		{Id: 1 << 32, Gen: 1}, {Id: 1<<32 + 1, Gen: 1}, {Id: 1, Gen: 1<<32 + 1}, {Id: math.MaxInt, Gen: math.MaxInt}, {Id: math.MinInt, Gen: math.MinInt}, {Id: math.MaxInt, Gen: 1}, {Id: math.MinInt, Gen: 1},
	}
}

// belowZero are numbers below 0.
func belowZero() []int {
	return []int{-1, -2, -16, -mostFile, math.MinInt32, math.MinInt + 1, math.MinInt}
}

// aboveFile are numbers above MaxFile.
func aboveFile() []int {
	return []int{mostFile + 1, mostFile + 2, mostFile + 16, 2 * mostFile, math.MaxInt32, 1 << 32, 1<<32 + 5, 1 << 62, math.MaxInt - 1, math.MaxInt}
}

// noTimes are numbers that are no times.
func noTimes() []int {
	return []int{-1, -2, math.MinInt, mostClock + 1, mostClock + 2, 1 << 41, math.MaxInt}
}

// times are some, with the least and the greatest one.
func times() []int {
	return []int{0, 1, 77, mostFile, math.MaxInt32, 1 << 33, mostClock - 1, mostClock}
}

// dice tells numbers below n, always the same ones for a seed.
func dice(seed uint64) func(n int) int {
	x := seed
	return func(n int) int {
		x = x*6364136223846793005 + 1442695040888963407
		return int(x>>33) % n
	}
}

// pick is one of a list.
func pick[T any](roll func(int) int, l []T) T {
	return l[roll(len(l))]
}
