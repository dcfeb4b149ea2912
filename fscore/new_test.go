package fscore_test

import (
	"fmt"
	"math"
	"slices"
	"strings"
	"testing"

	"harpsichord/api"
	"harpsichord/fscore"
)

// stats asks that an inode has just that.
func stats(t *testing.T, f *fscore.Fs, want fscore.Info) {
	t.Helper()
	if i, e := f.Stat(want.Handle); i != want || e != api.OK {
		t.Errorf("P17.1: Stat(%v) is %+v, %d, not %+v", want.Handle, i, e, want)
	}
}

// frees asks for what is free.
func frees(t *testing.T, f *fscore.Fs, blocks, inodes int) {
	t.Helper()
	if b, i := f.Free(); b != blocks || i != inodes {
		t.Errorf("P17.1: Free is %d, %d, not %d, %d", b, i, blocks, inodes)
	}
}

// lists asks for the names in a folder.
func lists(t *testing.T, f *fscore.Fs, dir handle, names ...string) {
	t.Helper()
	if l, e := f.List(dir); !slices.Equal(l, names) || e != api.OK {
		t.Errorf("P17.1: List(%v) is %.900q, %d, not %.900q", dir, l, e, names)
	}
}

// looks asks for the inode that has a name in a folder.
func looks(t *testing.T, f *fscore.Fs, dir handle, name string, want handle) {
	t.Helper()
	if h, e := f.Look(dir, name); h != want || e != api.OK {
		t.Errorf("P17.1: Look(%v, %.70q) is %v, %d, not %v", dir, name, h, e, want)
	}
}

func TestNewHasTheRootAlone(t *testing.T) {
	for room, blocks := range map[int]int{math.MinInt: 0, -100: 0, -1: 0, 0: 0, 1: 1, 7: 7, 65536: 65536, 1 << 40: 1 << 40, math.MaxInt: math.MaxInt} {
		p := begin(t, room)
		if h := p.f.Root(); h != (handle{Id: 1, Gen: 1}) {
			t.Errorf("P17.1: New(%d): Root is %v", room, h)
		}
		stats(t, p.f, fscore.Info{Handle: root, Kind: 2, Mode: 0o755, Links: 2, Size: 0, Blocks: 0, Time: 0})
		looks(t, p.f, root, ".", root)
		looks(t, p.f, root, "..", root)
		lists(t, p.f, root)
		frees(t, p.f, blocks, 199)
		p.same().sound()
	}
}

// A room below 0 is no room, not less than that.
func TestRoomBelow0(t *testing.T) {
	for _, room := range []int{0, -1, -5, math.MinInt} {
		p := begin(t, room)
		h := p.new(root, "a", file)
		if e := p.write(h, 0, text(1), 5); e != api.ErrFsSpace {
			t.Errorf("P17.1: New(%d): Write is %d", room, e)
		}
		p.same()
	}
}

func TestLook(t *testing.T) {
	p := begin(t, 9)
	a := p.new(root, "a", folder)
	b := p.new(a, "b", folder)
	f := p.new(b, "f", file)
	l := p.new(b, "l", link)
	same := p.new(root, "f", file)
	p.ok(p.link(f, root, "g"))
	for _, x := range []struct {
		dir  handle
		name string
		want handle
	}{
		{root, "a", a}, {a, "b", b}, {b, "f", f}, {b, "l", l}, {root, "f", same}, {root, "g", f},
		{root, ".", root}, {root, "..", root}, {a, ".", a}, {a, "..", root}, {b, ".", b}, {b, "..", a},
	} {
		looks(t, p.f, x.dir, x.name, x.want)
	}
	for _, x := range []struct {
		dir  handle
		name string
		e    api.Errno
	}{
		{root, "b", api.ErrFsNone}, {a, "a", api.ErrFsNone}, {b, "g", api.ErrFsNone}, {a, "f", api.ErrFsNone}, {root, "A", api.ErrFsNone}, {root, "aa", api.ErrFsNone}, {root, "...", api.ErrFsNone},
		{f, "f", api.ErrFsNotDir}, {f, ".", api.ErrFsNotDir}, {f, "..", api.ErrFsNotDir}, {f, "", api.ErrFsNotDir},
		{l, "a", api.ErrFsNotDir}, {l, ".", api.ErrFsNotDir}, {l, "..", api.ErrFsNotDir},
		{handle{Id: 9, Gen: 1}, ".", api.ErrFsStale}, {handle{Id: 2, Gen: 2}, "..", api.ErrFsStale},
	} {
		if h, e := p.f.Look(x.dir, x.name); h != none || e != x.e {
			t.Errorf("P17.1: Look(%v, %q) is %v, %d, not %d", x.dir, x.name, h, e, x.e)
		}
	}
	p.same().sound()
}

func TestLookOfWhatIsNoName(t *testing.T) {
	p := begin(t, 9)
	a := p.new(root, "a", folder)
	for _, dir := range []handle{root, a} {
		for _, name := range noNames() {
			if h, e := p.f.Look(dir, name); h != none || e != api.ErrFsName {
				t.Errorf("P17.1: Look(%v, %.70q) is %v, %d", dir, name, h, e)
			}
		}
		for _, name := range oddNames() {
			if h, e := p.f.Look(dir, name); dir == a && (h != none || e != api.ErrFsNone) {
				t.Errorf("P17.1: Look(%v, %.70q) is %v, %d", dir, name, h, e)
			}
		}
	}
}

// Each byte is a name of its own, but for a slash and 0, and one point.
func TestEachByteAsAName(t *testing.T) {
	for x := range 256 {
		p := begin(t, 0)
		name := string([]byte{byte(x)})
		h, e := p.make(root, name, fscore.Make{Kind: file})
		if want := x == 0 || x == '/' || x == '.'; (e == api.ErrFsName) != want || (e == api.OK) == want {
			t.Errorf("P17.2: Make of %q is %v, %d", name, h, e)
		}
		if e == api.OK {
			looks(t, p.f, root, name, h)
			lists(t, p.f, root, name)
		}
		for _, more := range []string{"a" + name, name + "a"} {
			h, e := p.make(root, more, fscore.Make{Kind: file})
			if want := x == 0 || x == '/'; (e == api.ErrFsName) != want || (e == api.OK) == want {
				t.Errorf("P17.2: Make of %q is %v, %d", more, h, e)
			}
			p.remove(root, more, false)
		}
		p.same()
	}
}

func TestList(t *testing.T) {
	names := []string{"b", "a", "ab", "a-", "B", "é", "\xff", "10", "9", "z", "...", "\x01", " ", long(60), "aa", "Z", "_", "~"}
	rising := []string{"\x01", " ", "...", "10", "9", "B", "Z", "_", "a", "a-", "aa", "ab", "b", long(60), "z", "~", "é", "\xff"}
	for _, l := range [][]string{names, rising} {
		p := begin(t, 9)
		a := p.new(root, "in", folder)
		for k, name := range l {
			p.new(a, name, 1+k%3)
		}
		lists(t, p.f, a, rising...)
		lists(t, p.f, root, "in")
		p.remove(a, "ab", false)
		p.remove(a, "ab", true)
		lists(t, p.f, a, slices.DeleteFunc(slices.Clone(rising), func(s string) bool { return s == "ab" })...)
		p.same().sound()
	}
}

func TestListOfWhatIsNoFolder(t *testing.T) {
	p := begin(t, 9)
	f, l := p.new(root, "f", file), p.new(root, "l", link)
	gone := p.new(root, "g", folder)
	p.ok(p.remove(root, "g", true))
	for h, want := range map[handle]api.Errno{f: api.ErrFsNotDir, l: api.ErrFsNotDir, gone: api.ErrFsStale} {
		if names, e := p.f.List(h); len(names) != 0 || e != want {
			t.Errorf("P17.1: List(%v) is %q, %d, not %d", h, names, e, want)
		}
	}
	if names, e := p.f.List(p.new(root, "d", folder)); len(names) != 0 || e != api.OK {
		t.Errorf("P17.1: List of an empty folder is %q, %d", names, e)
	}
}

func TestStat(t *testing.T) {
	p := begin(t, 9)
	a, e1 := p.make(root, "a", fscore.Make{Kind: 2, Mode: 0o700, Time: 5})
	b, e2 := p.make(a, "b", fscore.Make{Kind: 1, Mode: 0o644, Time: 6})
	c, e3 := p.make(a, "c", fscore.Make{Kind: 3, Mode: 0o777, Time: 7, Target: "../x"})
	d, e4 := p.make(a, "d", fscore.Make{Kind: 2})
	for _, e := range []api.Errno{e1, e2, e3, e4, p.write(b, 20, text(13), 9), p.link(b, root, "b"), p.link(b, d, "e"), p.link(c, root, "c")} {
		p.ok(e)
	}
	stats(t, p.f, fscore.Info{Handle: root, Kind: 2, Mode: 0o755, Links: 3, Size: 3, Blocks: 0, Time: 0})
	stats(t, p.f, fscore.Info{Handle: a, Kind: 2, Mode: 0o700, Links: 3, Size: 3, Blocks: 0, Time: 5})
	stats(t, p.f, fscore.Info{Handle: b, Kind: 1, Mode: 0o644, Links: 3, Size: 33, Blocks: 2, Time: 9})
	stats(t, p.f, fscore.Info{Handle: c, Kind: 3, Mode: 0o777, Links: 2, Size: 4, Blocks: 0, Time: 7})
	stats(t, p.f, fscore.Info{Handle: d, Kind: 2, Mode: 0, Links: 2, Size: 1, Blocks: 0, Time: 0})
	for _, h := range append(neverHad(), handle{Id: 2, Gen: 2}, handle{Id: 2}, handle{Id: 6, Gen: 1}) {
		if i, e := p.f.Stat(h); i != (fscore.Info{}) || e != api.ErrFsStale {
			t.Errorf("P17.1: Stat(%v) is %+v, %d", h, i, e)
		}
	}
	p.same().sound()
}

func TestTarget(t *testing.T) {
	p := begin(t, 9)
	for k, s := range []string{"x", "/a/../b", ".", "\x00", "\xff\xfe", "nobody", long(100)} {
		h, e := p.make(root, fmt.Sprint(k), fscore.Make{Kind: 3, Target: s})
		if is, err := p.f.Target(h); e != api.OK || is != s || err != api.OK {
			t.Errorf("P17.1: Target of %.70q is %.70q, %d", s, is, err)
		}
		stats(t, p.f, fscore.Info{Handle: h, Kind: 3, Links: 1, Size: len(s)})
	}
	f, d := p.new(root, "f", file), p.new(root, "d", folder)
	for h, want := range map[handle]api.Errno{f: api.ErrArg, d: api.ErrArg, root: api.ErrArg, {Id: 99, Gen: 1}: api.ErrFsStale, {Id: 2, Gen: 2}: api.ErrFsStale, {Id: 2}: api.ErrFsStale} {
		if s, e := p.f.Target(h); s != "" || e != want {
			t.Errorf("P17.1: Target(%v) is %q, %d, not %d", h, s, e, want)
		}
	}
	p.same()
}

func TestFree(t *testing.T) {
	p := begin(t, 10)
	a := p.new(root, "a", file)
	frees(t, p.f, 10, 198)
	p.ok(p.write(a, 0, text(33), 1))
	frees(t, p.f, 7, 198)
	b := p.new(root, "b", file)
	p.ok(p.write(b, 160, text(1), 1)) // behind ten holes
	frees(t, p.f, 6, 197)
	p.ok(p.write(a, 5, text(20), 1)) // where there are blocks
	p.ok(p.cut(b, 500, 1))           // holes alone
	frees(t, p.f, 6, 197)
	p.ok(p.cut(a, 16, 1))
	frees(t, p.f, 8, 197)
	p.ok(p.link(a, root, "c"))
	p.new(root, "d", folder)
	p.new(root, "l", link)
	frees(t, p.f, 8, 195)
	p.ok(p.remove(root, "a", false)) // c is left
	frees(t, p.f, 8, 195)
	p.ok(p.remove(root, "c", false))
	frees(t, p.f, 9, 196)
	p.ok(p.remove(root, "d", true))
	p.ok(p.remove(root, "l", false))
	frees(t, p.f, 9, 198)
	p.ok(p.cut(b, 0, 1))
	frees(t, p.f, 10, 198)
	p.same().sound()
}

// Whatever is done to one is not seen at the other, nor the other way round.
func TestClone(t *testing.T) {
	acts := []func(p *pair){
		func(p *pair) { p.new(root, "new", folder) },
		func(p *pair) { p.new(handle{Id: 2, Gen: 1}, "new", file) },
		func(p *pair) { p.new(handle{Id: 2, Gen: 1}, "new", folder) },
		func(p *pair) { p.ok(p.link(handle{Id: 3, Gen: 1}, root, "new")) },
		func(p *pair) { p.ok(p.remove(root, "f", false)) },
		func(p *pair) { p.ok(p.remove(handle{Id: 2, Gen: 1}, "sub", true)) },
		func(p *pair) { p.ok(p.remove(root, "l", false)) },
		func(p *pair) { p.ok(p.rename(root, "f", root, "g")) },
		func(p *pair) { p.ok(p.rename(handle{Id: 2, Gen: 1}, "sub", root, "sub")) },
		func(p *pair) { p.ok(p.rename(root, "f", root, "l")) },
		func(p *pair) { p.ok(p.write(handle{Id: 3, Gen: 1}, 5, []byte("mine"), 99)) },
		func(p *pair) { p.ok(p.write(handle{Id: 3, Gen: 1}, 70, []byte("mine"), 99)) },
		func(p *pair) { p.ok(p.cut(handle{Id: 3, Gen: 1}, 3, 98)) },
		func(p *pair) { p.ok(p.cut(handle{Id: 3, Gen: 1}, 300, 98)) },
	}
	for k, act := range acts {
		for other := range acts {
			p := begin(t, 20)
			a := p.new(root, "a", folder)
			f := p.new(root, "f", file)
			p.new(a, "sub", folder)
			p.new(root, "l", link)
			p.new(root, "gone", file)
			p.ok(p.remove(root, "gone", false))
			p.ok(p.write(f, 0, text(40), 7))
			q := p.clone()
			q.same()
			act(p)
			p.same().sound()
			q.same().sound()
			acts[other](q)
			q.same().sound()
			p.same().sound()
			p.new(root, fmt.Sprint("last ", k), file) // and the next generations are those that each has
			q.new(root, fmt.Sprint("last ", other), folder)
			r := q.clone()
			p.same()
			r.same().sound()
		}
	}
}

// What is told is the caller's own.
func TestWhatIsToldIsOnesOwn(t *testing.T) {
	p := begin(t, 9)
	f := p.new(root, "f", file)
	p.new(root, "g", file)
	p.ok(p.write(f, 3, text(30), 5))
	for range 3 {
		b, _ := p.f.Read(f, 0, 33)
		for i := range b {
			b[i] = 'x'
		}
		l, _ := p.f.List(root)
		for i := range l {
			l[i] = "x"
		}
		_ = append(b[:2], 'y')
		_ = append(l[:1], "y")
		p.same()
	}
}

// Names have 1 to 60 bytes, whatever these are.
func TestNamesOfAllLengths(t *testing.T) {
	for n := range 70 {
		p := begin(t, 0)
		for _, c := range []string{"a", ".", "\xff"} {
			name := strings.Repeat(c, n)
			h, e := p.make(root, name, fscore.Make{Kind: 1 + n%2})
			want := api.OK
			if n == 0 || n > 60 || c == "." && n < 3 {
				want = api.ErrFsName
			}
			if e != want || (h == none) != (want != api.OK) {
				t.Errorf("P17.2: Make of %d times %q is %v, %d, not %d", n, c, h, e, want)
			}
		}
		p.same().sound()
	}
}
