package fscore_test

import (
	"fmt"
	"math"
	"testing"

	"harpsichord/api"
	"harpsichord/fscore"
)

// made asks that a Make answers just that.
func made(p *pair, dir handle, name string, m fscore.Make, want handle, err api.Errno) {
	p.t.Helper()
	if h, e := p.make(dir, name, m); h != want || e != err {
		p.fail("P17.2", "Make(%v, %.70q, %+v) is %v, %d, not %v, %d", dir, name, m, h, e, want, err)
	}
}

func TestTheChaptersExamples(t *testing.T) {
	p := begin(t, 9)
	made(p, root, "a", fscore.Make{Kind: folder}, handle{Id: 2, Gen: 1}, api.OK)
	made(p, handle{Id: 2, Gen: 1}, "b", fscore.Make{Kind: file}, handle{Id: 3, Gen: 1}, api.OK)
	if e := p.remove(root, "a", true); e != api.ErrFsEmpty {
		t.Errorf("P17.3: Remove is %d", e)
	}
	if e := p.remove(handle{Id: 2, Gen: 1}, "b", false); e != api.OK {
		t.Errorf("P17.3: Remove is %d", e)
	}
	made(p, handle{Id: 2, Gen: 1}, "c", fscore.Make{Kind: file}, handle{Id: 3, Gen: 2}, api.OK)
	if i, e := p.f.Stat(handle{Id: 3, Gen: 1}); i != (fscore.Info{}) || e != api.ErrFsStale {
		t.Errorf("P17.6: Stat is %+v, %d", i, e)
	}
	p.same().sound()
}

func TestMakeOfEachKind(t *testing.T) {
	for _, dir := range []handle{root, {Id: 2, Gen: 1}} {
		for kind, want := range map[int]api.Errno{math.MinInt: api.ErrArg, -1: api.ErrArg, 0: api.ErrArg, 1: api.OK, 2: api.OK, 3: api.OK, 4: api.ErrArg, 5: api.ErrArg, 257: api.ErrArg, 1<<32 + 1: api.ErrArg, math.MaxInt: api.ErrArg} {
			p := begin(t, 9)
			p.new(root, "in", folder)
			m := fscore.Make{Kind: kind, Mode: 0o640, Time: 12}
			if kind == 3 {
				m.Target = "to"
			}
			h := handle{Id: 3, Gen: 1}
			if want != api.OK {
				h = none
			}
			made(p, dir, "new", m, h, want)
			p.same().sound()
			if want != api.OK {
				continue
			}
			looks(t, p.f, dir, "new", h)
			links, size := 1, 0
			switch kind {
			case folder:
				links = 2
				looks(t, p.f, h, "..", dir)
				looks(t, p.f, h, ".", h)
				lists(t, p.f, h)
			case link:
				size = 2
			}
			stats(t, p.f, fscore.Info{Handle: h, Kind: kind, Mode: 0o640, Links: links, Size: size, Time: 12})
		}
	}
}

func TestMakeOfEachMode(t *testing.T) {
	for kind := 1; kind <= 3; kind++ {
		m := fscore.Make{Kind: kind}
		if kind == link {
			m.Target = "x"
		}
		p := begin(t, 9)
		for m.Mode = range 4096 {
			if m.Mode > 40 && m.Mode < 4050 && m.Mode%97 != 0 {
				continue
			}
			made(p, root, "a", m, handle{Id: 2, Gen: p.w.had[2] + 1}, api.OK)
			if i, e := p.f.Stat(handle{Id: 2, Gen: p.w.had[2]}); i.Mode != m.Mode || e != api.OK {
				t.Errorf("P17.2: Mode %d: Stat is %+v, %d", m.Mode, i, e)
			}
			p.ok(p.remove(root, "a", kind == folder))
		}
		for _, m.Mode = range []int{-1, -2, math.MinInt, 4096, 4097, 8191, 1 << 16, 1 << 32, math.MaxInt} {
			made(p, root, "a", m, none, api.ErrArg)
		}
		p.same().sound()
	}
}

func TestMakeOfEachTime(t *testing.T) {
	for kind := 1; kind <= 3; kind++ {
		m := fscore.Make{Kind: kind}
		if kind == link {
			m.Target = "x"
		}
		p := begin(t, 9)
		for k, at := range times() {
			m.Time = at
			h := handle{Id: k + 2, Gen: 1}
			made(p, root, fmt.Sprint(k), m, h, api.OK)
			if i, e := p.f.Stat(h); i.Time != at || e != api.OK {
				t.Errorf("P17.2: Time %d: Stat is %+v, %d", at, i, e)
			}
		}
		for _, m.Time = range noTimes() {
			made(p, root, "a", m, none, api.ErrArg)
		}
		p.same().sound()
	}
}

func TestMakeOfEachTarget(t *testing.T) {
	for n := range 110 {
		p := begin(t, 9)
		h, e := handle{Id: 2, Gen: 1}, api.OK
		if n == 0 || n > 100 {
			h, e = none, api.ErrArg
		}
		made(p, root, "l", fscore.Make{Kind: link, Target: long(n)}, h, e)
		if s, err := p.f.Target(h); e == api.OK && (s != long(n) || err != api.OK) {
			t.Errorf("P17.2: Target of %d bytes is %q, %d", n, s, err)
		}
		p.same().sound()
	}
	for _, n := range []int{1, 2, 60, 100, 101, 5000} {
		p := begin(t, 9)
		made(p, root, "a", fscore.Make{Kind: file, Target: long(n)}, none, api.ErrArg)
		made(p, root, "a", fscore.Make{Kind: folder, Target: long(n)}, none, api.ErrArg)
		p.same().sound()
	}
	p := begin(t, 9)
	made(p, root, "l", fscore.Make{Kind: link, Target: long(101)}, none, api.ErrArg)
	made(p, root, "l", fscore.Make{Kind: link, Target: long(5000)}, none, api.ErrArg)
	made(p, root, "l", fscore.Make{Kind: link, Target: "\x00"}, handle{Id: 2, Gen: 1}, api.OK)
	made(p, root, "m", fscore.Make{Kind: link, Target: "/"}, handle{Id: 3, Gen: 1}, api.OK)
}

func TestMakeOfWhatIsNoName(t *testing.T) {
	p := begin(t, 9)
	a := p.new(root, "a", folder)
	for _, name := range append(noNames(), points()...) {
		for kind := 1; kind <= 3; kind++ {
			m := fscore.Make{Kind: kind}
			if kind == link {
				m.Target = "x"
			}
			made(p, root, name, m, none, api.ErrFsName)
			made(p, a, name, m, none, api.ErrFsName)
		}
	}
	p.same().sound()
}

func TestMakeOfOddNames(t *testing.T) {
	p := begin(t, 9)
	for k, name := range oddNames() {
		made(p, root, name, fscore.Make{Kind: 1 + k%2}, handle{Id: k + 2, Gen: 1}, api.OK)
	}
	p.same().sound()
}

func TestMakeOfANameThatIsThere(t *testing.T) {
	p := begin(t, 9)
	a := p.new(root, "folder", folder)
	p.new(root, "file", file)
	p.new(root, "link", link)
	for _, name := range []string{"folder", "file", "link"} {
		made(p, root, name, fscore.Make{Kind: file}, none, api.ErrFsExists)
		made(p, root, name, fscore.Make{Kind: folder}, none, api.ErrFsExists)
		made(p, root, name, fscore.Make{Kind: link, Target: "x"}, none, api.ErrFsExists)
	}
	p.same().sound()
	made(p, a, "file", fscore.Make{Kind: file}, handle{Id: 5, Gen: 1}, api.OK) // in another folder
	p.same().sound()
}

// A folder has 2 Links, and one more for each folder in it; it is full of folders at 20, and of nothing else.
func TestMakeInAFolderOfMaxLinks(t *testing.T) {
	for _, dir := range []handle{root, {Id: 2, Gen: 1}} {
		p := begin(t, 9)
		p.new(root, "in", folder)
		have := 2
		if dir == root {
			have = 3
		}
		for k := range 20 - have {
			if i, _ := p.f.Stat(dir); i.Links != have+k {
				t.Errorf("P17.2: of %d folders Links are %d", have+k-2, i.Links)
			}
			p.new(dir, fmt.Sprint(k), folder)
			p.new(dir, fmt.Sprint("f", k), file)
		}
		if i, _ := p.f.Stat(dir); i.Links != 20 {
			t.Errorf("P17.2: of 18 folders Links are %d", i.Links)
		}
		made(p, dir, "new", fscore.Make{Kind: folder}, none, api.ErrFsLinks)
		made(p, dir, "new", fscore.Make{Kind: folder, Mode: 5000}, none, api.ErrArg)
		made(p, dir, "0", fscore.Make{Kind: folder}, none, api.ErrFsExists)
		p.same().sound()
		p.new(dir, "file", file)
		p.new(dir, "link", link)
		p.new(p.w.of(dir, "3"), "below", folder) // another one
		p.ok(p.remove(dir, "0", true))
		p.new(dir, "new", folder)
		made(p, dir, "0", fscore.Make{Kind: folder}, none, api.ErrFsLinks)
		p.same().sound()
	}
}

func TestMakeOfMaxInodes(t *testing.T) {
	for kind := 1; kind <= 3; kind++ {
		p := begin(t, 9)
		up := root
		for k := range 199 {
			m := fscore.Make{Kind: kind}
			if kind == link {
				m.Target = "x"
			}
			made(p, up, fmt.Sprint(k), m, handle{Id: k + 2, Gen: 1}, api.OK)
			frees(t, p.f, 9, 198-k)
			if kind == folder && k%10 == 9 {
				up = handle{Id: k + 2, Gen: 1}
			}
		}
		p.same().sound()
		for other := 1; other <= 3; other++ {
			m := fscore.Make{Kind: other}
			if other == link {
				m.Target = "x"
			}
			made(p, up, "new", m, none, api.ErrFsSpace)
			made(p, up, "198", m, none, api.ErrFsExists)
			m.Time = -1
			made(p, up, "new", m, none, api.ErrArg)
		}
		p.same().sound()
		p.ok(p.remove(up, "197", kind == folder))
		made(p, root, "new", fscore.Make{Kind: file}, handle{Id: 199, Gen: 2}, api.OK)
		made(p, root, "more", fscore.Make{Kind: file}, none, api.ErrFsSpace)
		p.ok(p.remove(root, "new", false))
		p.ok(p.remove(root, "5", kind == folder))
		p.ok(p.remove(up, "198", kind == folder))
		made(p, root, "x", fscore.Make{Kind: file}, handle{Id: 7, Gen: 2}, api.OK)
		made(p, root, "y", fscore.Make{Kind: file}, handle{Id: 199, Gen: 3}, api.OK)
		made(p, root, "z", fscore.Make{Kind: file}, handle{Id: 200, Gen: 2}, api.OK)
		made(p, root, "0", fscore.Make{Kind: file}, none, api.ErrFsExists)
		made(p, root, "more", fscore.Make{Kind: file}, none, api.ErrFsSpace)
		p.same().sound()
	}
}

// A folder of MaxLinks where there are MaxInodes inodes: its Links are named first.
func TestMakeWhereLinksAndInodesAreFull(t *testing.T) {
	p := begin(t, 9)
	p.fill(root, folder, 18)
	p.fill(root, file, 181)
	made(p, root, "new", fscore.Make{Kind: folder}, none, api.ErrFsLinks)
	made(p, root, "new", fscore.Make{Kind: file}, none, api.ErrFsSpace)
	made(p, root, "new", fscore.Make{Kind: link, Target: "x"}, none, api.ErrFsSpace)
	made(p, handle{Id: 2, Gen: 1}, "new", fscore.Make{Kind: folder}, none, api.ErrFsSpace)
	made(p, root, "2-0", fscore.Make{Kind: folder}, none, api.ErrFsExists)
	p.same().sound()
}

// The least number that is free, with the generation that comes next for it.
func TestMakeTakesTheLeastNumber(t *testing.T) {
	p := begin(t, 9)
	for k := 2; k <= 9; k++ {
		made(p, root, fmt.Sprint(k), fscore.Make{Kind: 1 + k%2}, handle{Id: k, Gen: 1}, api.OK)
	}
	for _, k := range []int{7, 3, 5} {
		p.ok(p.remove(root, fmt.Sprint(k), k%2 == 1))
	}
	made(p, root, "a", fscore.Make{Kind: file}, handle{Id: 3, Gen: 2}, api.OK)
	p.ok(p.remove(root, "2", false))
	made(p, root, "b", fscore.Make{Kind: folder}, handle{Id: 2, Gen: 2}, api.OK)
	made(p, root, "c", fscore.Make{Kind: link, Target: "x"}, handle{Id: 5, Gen: 2}, api.OK)
	p.ok(p.remove(root, "c", false))
	made(p, root, "c", fscore.Make{Kind: file}, handle{Id: 5, Gen: 3}, api.OK)
	made(p, root, "d", fscore.Make{Kind: file}, handle{Id: 7, Gen: 2}, api.OK)
	made(p, root, "e", fscore.Make{Kind: file}, handle{Id: 10, Gen: 1}, api.OK)
	p.same().sound()
}

// Generations go on and on, each of a number by itself.
func TestGenerations(t *testing.T) {
	p := begin(t, 9)
	p.new(root, "stays", file)
	for gen := 1; gen <= 300; gen++ {
		made(p, root, "a", fscore.Make{Kind: 1 + gen%2}, handle{Id: 3, Gen: gen}, api.OK)
		if gen%3 == 0 {
			made(p, root, "b", fscore.Make{Kind: file}, handle{Id: 4, Gen: gen / 3}, api.OK)
			p.ok(p.remove(root, "b", false))
		}
		p.ok(p.remove(root, "a", gen%2 == 1))
	}
	p.same().sound()
}

// A Make that is refused takes no generation.
func TestMakeThatIsRefusedTakesNoGeneration(t *testing.T) {
	p := begin(t, 9)
	p.new(root, "a", file)
	for range 5 {
		made(p, root, "a", fscore.Make{Kind: file}, none, api.ErrFsExists)
		made(p, root, "", fscore.Make{Kind: file}, none, api.ErrFsName)
		made(p, root, "b", fscore.Make{}, none, api.ErrArg)
		made(p, handle{Id: 2, Gen: 1}, "b", fscore.Make{Kind: file}, none, api.ErrFsNotDir)
	}
	made(p, root, "b", fscore.Make{Kind: file}, handle{Id: 3, Gen: 1}, api.OK)
	p.same().sound()
}

// Folders may lie in one another as long as there are inodes.
func TestMakeOfFoldersInFolders(t *testing.T) {
	p := begin(t, 9)
	way := []handle{root}
	for k := range 199 {
		way = append(way, p.new(way[k], "in", folder))
	}
	for k := 1; k < 199; k++ {
		looks(t, p.f, way[k], "..", way[k-1])
		stats(t, p.f, fscore.Info{Handle: way[k], Kind: 2, Mode: 0o602, Links: 3, Size: 1, Time: 2})
	}
	made(p, way[199], "in", fscore.Make{Kind: folder}, none, api.ErrFsSpace)
	if e := p.rename(root, "in", way[199], "in"); e != api.ErrFsLoop {
		t.Errorf("P17.4: Rename is %d", e)
	}
	p.same().sound()
}
