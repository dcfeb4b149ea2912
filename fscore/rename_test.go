package fscore_test

import (
	"fmt"
	"slices"
	"testing"

	"harpsichord/api"
	"harpsichord/fscore"
)

// renamed asks that a Rename answers just that.
func renamed(p *pair, from handle, name string, to handle, other string, want api.Errno) {
	p.t.Helper()
	if e := p.rename(from, name, to, other); e != want {
		p.fail("P17.4", "Rename(%v, %.70q, %v, %.70q) is %d, not %d", from, name, to, other, e, want)
	}
}

// untouched asks that what is done changes nothing that can be told.
func untouched(p *pair, act func()) {
	p.t.Helper()
	before := tale(p)
	act()
	if after := tale(p); !slices.Equal(before, after) {
		p.fail("R2", "it was %q, and is %q", before, after)
	}
}

// tale is all that is told of a file system.
func tale(p *pair) []string {
	var l []string
	for _, h := range p.seen {
		i, e1 := p.f.Stat(h)
		names, e2 := p.f.List(h)
		s, e3 := p.f.Target(h)
		b, e4 := p.f.Read(h, 0, 200)
		up, e5 := p.f.Look(h, "..")
		l = append(l, fmt.Sprintf("%+v %q %q %q %v", i, names, s, b, up), fmt.Sprint(e1, e2, e3, e4, e5))
		for _, name := range names {
			x, e := p.f.Look(h, name)
			l = append(l, fmt.Sprint(x, e))
		}
	}
	blocks, inodes := p.f.Free()
	return append(l, fmt.Sprint(blocks, inodes))
}

func TestRenameOfWhatIsNotThere(t *testing.T) {
	p := begin(t, 9)
	d := p.new(root, "d", folder)
	f := p.new(d, "f", file)
	l := p.new(root, "l", link)
	for _, other := range []string{"x", "d", "l", "new"} {
		for _, to := range []handle{root, d} {
			renamed(p, root, "x", to, other, api.ErrFsNone)
			renamed(p, root, "f", to, other, api.ErrFsNone)
			renamed(p, d, "d", to, other, api.ErrFsNone)
		}
	}
	for _, bad := range append(noNames(), points()...) {
		renamed(p, root, bad, root, "new", api.ErrFsName)
		renamed(p, root, "l", d, bad, api.ErrFsName)
		renamed(p, root, "x", d, bad, api.ErrFsName)
		renamed(p, root, bad, d, bad, api.ErrFsName)
		renamed(p, f, bad, root, "new", api.ErrFsNotDir)
		renamed(p, root, bad, l, bad, api.ErrFsNotDir)
	}
	for _, h := range neverHad() {
		renamed(p, h, "d", root, "new", api.ErrFsStale)
		renamed(p, root, "d", h, "new", api.ErrFsStale)
		renamed(p, f, "d", h, "", api.ErrFsStale)
		renamed(p, h, "", f, "new", api.ErrFsStale)
		renamed(p, h, "", h, "", api.ErrFsStale)
	}
	p.same().sound()
}

func TestRename(t *testing.T) {
	for kind := 1; kind <= 3; kind++ {
		p := begin(t, 9)
		a, b := p.new(root, "a", folder), p.new(root, "b", folder)
		h := p.new(a, "x", kind)
		if kind == file {
			p.ok(p.write(h, 3, text(40), 77))
		}
		was, _ := p.f.Stat(h)
		renamed(p, a, "x", a, "y", api.OK) // in its folder
		p.same().sound()
		renamed(p, a, "y", b, "y", api.OK) // in another one
		p.same().sound()
		renamed(p, b, "y", root, "x", api.OK) // up
		p.same().sound()
		renamed(p, root, "x", a, "x", api.OK) // and down
		p.same().sound()
		lists(t, p.f, root, "a", "b")
		lists(t, p.f, a, "x")
		lists(t, p.f, b)
		looks(t, p.f, a, "x", h)
		stats(t, p.f, was)
		frees(t, p.f, p.w.room-was.Blocks, 196)
	}
}

// The parent, and the Links of both folders.
func TestRenameOfAFolder(t *testing.T) {
	p := begin(t, 9)
	a, b := p.new(root, "a", folder), p.new(root, "b", folder)
	x := p.new(a, "x", folder)
	y := p.new(x, "y", folder)
	f := p.new(x, "f", file)
	haveLinks(p, root, 4)
	haveLinks(p, a, 3)
	haveLinks(p, b, 2)
	renamed(p, a, "x", b, "z", api.OK)
	haveLinks(p, root, 4)
	haveLinks(p, a, 2)
	haveLinks(p, b, 3)
	haveLinks(p, x, 3)
	looks(t, p.f, x, "..", b)
	looks(t, p.f, b, "z", x)
	looks(t, p.f, y, "..", x) // what lies in it goes with it
	looks(t, p.f, x, "f", f)
	renamed(p, b, "z", root, "z", api.OK)
	haveLinks(p, root, 5)
	haveLinks(p, b, 2)
	looks(t, p.f, x, "..", root)
	renamed(p, root, "z", root, "zz", api.OK)
	haveLinks(p, root, 5)
	looks(t, p.f, x, "..", root)
	renamed(p, root, "a", x, "a", api.OK)
	haveLinks(p, root, 4)
	haveLinks(p, x, 4)
	looks(t, p.f, a, "..", x)
	p.same().sound()
}

// The same name, or two names of one inode: nothing is done.
func TestRenameToTheSameInode(t *testing.T) {
	for kind := 1; kind <= 3; kind++ {
		p := begin(t, 9)
		d := p.new(root, "d", folder)
		h := p.new(d, "x", kind)
		if kind != folder {
			linked(p, h, d, "y", api.OK)
			linked(p, h, root, "x", api.OK)
		}
		names := []string{"x", "y"}
		for _, name := range names {
			for _, other := range names {
				if kind == folder && (name != "x" || other != "x") {
					continue
				}
				untouched(p, func() { renamed(p, d, name, d, other, api.OK) })
			}
			if kind != folder {
				untouched(p, func() { renamed(p, d, name, root, "x", api.OK) })
				untouched(p, func() { renamed(p, root, "x", d, name, api.OK) })
			}
		}
		untouched(p, func() { renamed(p, root, "d", root, "d", api.OK) }) // with a name in it
		p.same().sound()
	}
}

func TestRenameOfAFolderIntoItself(t *testing.T) {
	p := begin(t, 9)
	way := []handle{p.new(root, "a", folder)}
	for k := range 30 {
		way = append(way, p.new(way[k], "in", folder))
	}
	p.new(way[30], "f", file)
	p.new(way[0], "f", file)
	for k, to := range way {
		renamed(p, root, "a", to, "new", api.ErrFsLoop)
		if k < 30 {
			renamed(p, root, "a", to, "in", api.ErrFsLoop) // ahead of ErrFsEmpty
		}
		if k == 0 || k == 30 {
			renamed(p, root, "a", to, "f", api.ErrFsLoop) // ahead of ErrFsNotDir
		}
		if k > 1 {
			renamed(p, way[0], "in", to, "new", api.ErrFsLoop)
		}
	}
	renamed(p, way[0], "in", way[0], "new", api.OK) // the folder in which it is
	renamed(p, way[0], "new", root, "in", api.OK)
	renamed(p, root, "a", way[5], "a", api.OK) // below what is not below it now
	looks(t, p.f, way[0], "..", way[5])
	renamed(p, root, "in", way[0], "x", api.ErrFsLoop)
	renamed(p, root, "in", way[30], "x", api.ErrFsLoop)
	renamed(p, way[0], "f", way[30], "g", api.OK) // a file may go anywhere
	renamed(p, way[30], "f", way[0], "g", api.OK)
	p.same().sound()
}

// A folder of MaxLinks, or below one, is no other reason ahead of ErrFsLoop.
func TestRenameIntoItselfWhereItIsFull(t *testing.T) {
	p := begin(t, 9)
	a := p.new(root, "a", folder)
	p.fill(a, folder, 18)
	renamed(p, root, "a", a, "new", api.ErrFsLoop)
	renamed(p, root, "a", a, "2-0", api.ErrFsLoop)
	p.same().sound()
}

// over has a folder with one of each kind, and others over which they may be renamed.
func over(t *testing.T) (p *pair, a, b handle) {
	t.Helper()
	p = begin(t, 20)
	a, b = p.new(root, "a", folder), p.new(root, "b", folder)
	for _, dir := range []handle{a, b} {
		f := p.new(dir, "file", file)
		p.ok(p.write(f, 0, text(40), 8))
		p.new(dir, "link", link)
		p.new(dir, "empty", folder)
		p.new(p.new(dir, "full", folder), "x", file)
	}
	return p, a, b
}

func TestRenameOverWhatIsThere(t *testing.T) {
	for _, x := range []struct {
		name, other string
		e           api.Errno
	}{
		{"file", "file", api.OK}, {"file", "link", api.OK}, {"file", "empty", api.ErrFsDir}, {"file", "full", api.ErrFsDir},
		{"link", "file", api.OK}, {"link", "link", api.OK}, {"link", "empty", api.ErrFsDir}, {"link", "full", api.ErrFsDir},
		{"empty", "file", api.ErrFsNotDir}, {"empty", "link", api.ErrFsNotDir}, {"empty", "empty", api.OK}, {"empty", "full", api.ErrFsEmpty},
		{"full", "file", api.ErrFsNotDir}, {"full", "link", api.ErrFsNotDir}, {"full", "empty", api.OK}, {"full", "full", api.ErrFsEmpty},
	} {
		p, a, b := over(t)
		if x.e != api.OK {
			untouched(p, func() { renamed(p, a, x.name, b, x.other, x.e) })
			if x.name != x.other {
				untouched(p, func() { renamed(p, a, x.name, a, x.other, x.e) })
			}
			p.same().sound()
			continue
		}
		h, y := p.w.of(a, x.name), p.w.of(b, x.other)
		renamed(p, a, x.name, b, x.other, api.OK)
		looks(t, p.f, b, x.other, h)
		haveLinks(p, y, 0)
		if _, e := p.f.Look(a, x.name); e != api.ErrFsNone {
			t.Errorf("P17.4: %s over %s: it is still there: %d", x.name, x.other, e)
		}
		p.same().sound()
		p, a, _ = over(t)
		renamed(p, a, x.name, a, x.other, api.OK) // in one folder
		p.same().sound()
	}
}

// The blocks and the inode of what it was renamed over are free.
func TestRenameOverFreesWhatWasThere(t *testing.T) {
	p, a, b := over(t)
	frees(t, p.f, 14, 200-13)
	renamed(p, a, "link", b, "file", api.OK)
	frees(t, p.f, 17, 200-12)
	renamed(p, a, "file", b, "link", api.OK)
	frees(t, p.f, 17, 200-11)
	renamed(p, b, "file", b, "link", api.OK)
	frees(t, p.f, 20, 200-10)
	renamed(p, a, "full", b, "empty", api.OK)
	frees(t, p.f, 20, 200-9)
	p.same().sound()
	for k, h := range []handle{{Id: 4, Gen: 2}, {Id: 9, Gen: 2}, {Id: 10, Gen: 2}, {Id: 11, Gen: 2}, {Id: 14, Gen: 1}} {
		made(p, root, fmt.Sprint(k), fscore.Make{Kind: file}, h, api.OK)
	}
	p.same().sound()
}

// An inode with other names stays, with one name less.
func TestRenameOverOneOfSeveralNames(t *testing.T) {
	for _, kind := range []int{file, link} {
		p := begin(t, 9)
		d := p.new(root, "d", folder)
		h, y := p.new(root, "h", file), p.new(root, "y", kind)
		linked(p, y, d, "y", api.OK)
		linked(p, h, d, "h", api.OK)
		renamed(p, root, "h", d, "y", api.OK)
		haveLinks(p, y, 1)
		haveLinks(p, h, 2)
		looks(t, p.f, d, "y", h)
		looks(t, p.f, d, "h", h)
		looks(t, p.f, root, "y", y)
		p.same().sound()
		renamed(p, d, "y", root, "y", api.OK)
		haveLinks(p, y, 0)
		haveLinks(p, h, 2)
		p.same().sound()
	}
}

// Over a folder: what it was is no more, and the Links are those of the folders that are there.
func TestLinksBehindARenameOverAFolder(t *testing.T) {
	p, a, b := over(t)
	haveLinks(p, a, 4)
	haveLinks(p, b, 4)
	renamed(p, a, "full", b, "empty", api.OK)
	haveLinks(p, a, 3)
	haveLinks(p, b, 4)
	looks(t, p.f, p.w.of(b, "empty"), "..", b)
	renamed(p, b, "empty", a, "empty", api.OK)
	haveLinks(p, a, 3)
	haveLinks(p, b, 3)
	p.same().sound()
	p, a, _ = over(t)
	renamed(p, a, "full", a, "empty", api.OK)
	haveLinks(p, a, 3)
	p.same().sound()
}

// Over the folder's own parent: that has a name in it, at least its own.
func TestRenameOverTheParent(t *testing.T) {
	p := begin(t, 9)
	a := p.new(root, "a", folder)
	b := p.new(a, "b", folder)
	c := p.new(b, "c", folder)
	f := p.new(b, "f", file)
	renamed(p, a, "b", root, "a", api.ErrFsEmpty)
	renamed(p, b, "c", root, "a", api.ErrFsEmpty)
	renamed(p, b, "c", a, "b", api.ErrFsEmpty)
	renamed(p, b, "f", a, "b", api.ErrFsDir)
	renamed(p, b, "f", root, "a", api.ErrFsDir)
	p.same().sound()
	renamed(p, b, "f", root, "f", api.OK)
	renamed(p, b, "c", root, "c", api.OK)
	renamed(p, root, "c", a, "b", api.OK) // empty now
	looks(t, p.f, c, "..", a)
	looks(t, p.f, root, "f", f)
	haveLinks(p, b, 0)
	p.same().sound()
}

func TestRenameIntoAFolderOfMaxLinks(t *testing.T) {
	p := begin(t, 9)
	a := p.new(root, "a", folder)
	p.fill(a, folder, 18)
	p.new(root, "d", folder)
	p.new(root, "f", file)
	p.new(root, "l", link)
	haveLinks(p, a, 20)
	untouched(p, func() { renamed(p, root, "d", a, "new", api.ErrFsLinks) })
	renamed(p, a, "2-0", a, "new", api.OK) // of those that are there
	renamed(p, root, "f", a, "f", api.OK)  // no folders
	renamed(p, root, "l", a, "l", api.OK)
	renamed(p, root, "d", a, "f", api.ErrFsNotDir)
	haveLinks(p, a, 20)
	p.same().sound()
	p.new(p.w.of(a, "2-1"), "x", file)
	renamed(p, root, "d", a, "2-1", api.ErrFsEmpty)
	renamed(p, root, "d", a, "2-2", api.OK) // over one that is there
	haveLinks(p, a, 20)
	haveLinks(p, root, 3)
	p.same().sound()
	p.new(root, "d", folder)
	renamed(p, root, "d", a, "2-0", api.ErrFsLinks) // its name is free, but that is all
	renamed(p, a, "2-3", a, "2-4", api.OK)
	haveLinks(p, a, 19)
	renamed(p, root, "d", a, "2-0", api.OK)
	haveLinks(p, a, 20)
	p.same().sound()
	renamed(p, a, "2-0", root, "d", api.OK) // out of it
	haveLinks(p, a, 19)
	p.same().sound()
}

// A file of MaxLinks, or where there are MaxInodes inodes: a Rename takes nothing.
func TestRenameWhereAllIsFull(t *testing.T) {
	p := begin(t, 9)
	p.fill(root, folder, 18)
	p.fill(root, file, 181)
	d, f := p.w.of(root, "2-0"), p.w.of(root, "1-0")
	for k := range 19 {
		linked(p, f, d, fmt.Sprint(k), api.OK)
	}
	renamed(p, root, "1-0", d, "new", api.OK)
	haveLinks(p, f, 20)
	renamed(p, d, "new", d, "0", api.OK) // the same inode
	haveLinks(p, f, 20)
	renamed(p, root, "1-1", d, "new", api.OK)
	haveLinks(p, f, 19)
	renamed(p, root, "2-1", root, "new", api.OK)
	renamed(p, root, "2-2", p.w.of(root, "2-3"), "in", api.OK)
	p.same().sound()
}

// The names that a Rename takes are all that may be names.
func TestRenameToEachName(t *testing.T) {
	p := begin(t, 9)
	d := p.new(root, "in", folder)
	h := p.new(root, "begin", file)
	from, name := root, "begin"
	for k, other := range oddNames() {
		to := []handle{root, d}[k/2%2]
		renamed(p, from, name, to, other, api.OK)
		looks(t, p.f, to, other, h)
		from, name = to, other
	}
	stats(t, p.f, fscore.Info{Handle: h, Kind: 1, Mode: 0o601, Links: 1, Time: 1})
	p.same().sound()
}
