package fscore_test

import (
	"fmt"
	"testing"

	"harpsichord/api"
	"harpsichord/fscore"
)

// linked asks that a Link answers just that.
func linked(p *pair, h, dir handle, name string, want api.Errno) {
	p.t.Helper()
	if e := p.link(h, dir, name); e != want {
		p.fail("P17.3", "Link(%v, %v, %.70q) is %d, not %d", h, dir, name, e, want)
	}
}

// removed asks that a Remove answers just that.
func removed(p *pair, dir handle, name string, isFolder bool, want api.Errno) {
	p.t.Helper()
	if e := p.remove(dir, name, isFolder); e != want {
		p.fail("P17.3", "Remove(%v, %.70q, %v) is %d, not %d", dir, name, isFolder, e, want)
	}
}

// haveLinks asks for an inode's Links; 0, if its handle is stale.
func haveLinks(p *pair, h handle, want int) {
	p.t.Helper()
	if i, e := p.f.Stat(h); i.Links != want || (e == api.ErrFsStale) != (want == 0) {
		p.fail("P17.3", "Links of %v are %d, %d, not %d", h, i.Links, e, want)
	}
}

func TestLink(t *testing.T) {
	for _, kind := range []int{file, link} {
		p := begin(t, 9)
		d := p.new(root, "d", folder)
		h := p.new(root, "a", kind)
		linked(p, h, root, "b", api.OK)
		linked(p, h, d, "a", api.OK)
		haveLinks(p, h, 3)
		haveLinks(p, root, 3)
		haveLinks(p, d, 2)
		looks(t, p.f, root, "a", h)
		looks(t, p.f, root, "b", h)
		looks(t, p.f, d, "a", h)
		lists(t, p.f, root, "a", "b", "d")
		lists(t, p.f, d, "a")
		frees(t, p.f, 9, 197)
		p.same().sound()
	}
}

func TestLinkOfAFolder(t *testing.T) {
	p := begin(t, 9)
	d := p.new(root, "d", folder)
	linked(p, d, root, "x", api.ErrFsDir)
	linked(p, d, d, "x", api.ErrFsDir)
	linked(p, root, d, "x", api.ErrFsDir)
	linked(p, root, root, "x", api.ErrFsDir)
	linked(p, d, root, "d", api.ErrFsDir) // ahead of ErrFsExists
	linked(p, d, root, "", api.ErrFsName)
	linked(p, d, root, ".", api.ErrFsName)
	p.same().sound()
}

func TestLinkToANameThatIsThere(t *testing.T) {
	p := begin(t, 9)
	d := p.new(root, "d", folder)
	f := p.new(root, "f", file)
	l := p.new(root, "l", link)
	p.new(d, "d", folder)
	for _, h := range []handle{f, l} {
		for _, name := range []string{"d", "f", "l"} {
			linked(p, h, root, name, api.ErrFsExists)
		}
		linked(p, h, d, "d", api.ErrFsExists)
	}
	p.same().sound()
}

func TestLinkInWhatIsNoFolder(t *testing.T) {
	p := begin(t, 9)
	f := p.new(root, "f", file)
	l := p.new(root, "l", link)
	for _, h := range []handle{f, l, root} {
		for _, dir := range []handle{f, l} {
			linked(p, h, dir, "x", api.ErrFsNotDir)
			linked(p, h, dir, "", api.ErrFsNotDir)
		}
		for _, dir := range neverHad() {
			linked(p, h, dir, "x", api.ErrFsStale)
			linked(p, dir, h, "x", api.ErrFsStale)
			linked(p, dir, h, "", api.ErrFsStale)
		}
		for _, name := range append(noNames(), points()...) {
			linked(p, h, root, name, api.ErrFsName)
		}
	}
	p.same().sound()
}

func TestLinkOfMaxLinks(t *testing.T) {
	for _, kind := range []int{file, link} {
		p := begin(t, 9)
		d := p.new(root, "d", folder)
		h := p.new(root, "a", kind)
		for k := range 19 {
			haveLinks(p, h, k+1)
			linked(p, h, []handle{root, d}[k%2], fmt.Sprint(k), api.OK)
		}
		haveLinks(p, h, 20)
		linked(p, h, root, "new", api.ErrFsLinks)
		linked(p, h, d, "new", api.ErrFsLinks)
		linked(p, h, root, "0", api.ErrFsExists)
		linked(p, h, root, "a", api.ErrFsExists)
		p.same().sound()
		removed(p, root, "4", false, api.OK)
		linked(p, h, d, "4", api.OK)
		linked(p, h, root, "4", api.ErrFsLinks)
		p.new(root, "new", kind) // another one has Links of its own
		p.same().sound()
	}
}

// Names of files and symbolic links are no Links of a folder, however many there are.
func TestLinkInAFolderOfMaxLinks(t *testing.T) {
	p := begin(t, 9)
	p.fill(root, folder, 18)
	h := p.new(root, "a", file)
	linked(p, h, root, "b", api.OK)
	haveLinks(p, root, 20)
	p.same().sound()
}

// Where there are MaxInodes inodes a Link takes none.
func TestLinkWhereInodesAreFull(t *testing.T) {
	p := begin(t, 9)
	p.fill(root, file, 199)
	linked(p, handle{Id: 7, Gen: 1}, root, "b", api.OK)
	frees(t, p.f, 9, 0)
	removed(p, root, "b", false, api.OK)
	frees(t, p.f, 9, 0)
	p.same().sound()
}

func TestRemoveOfWhatIsNotThere(t *testing.T) {
	p := begin(t, 9)
	d := p.new(root, "d", folder)
	f := p.new(d, "f", file)
	l := p.new(root, "l", link)
	for _, isFolder := range []bool{false, true} {
		for _, name := range []string{"x", "f", "D", "dd"} {
			removed(p, root, name, isFolder, api.ErrFsNone)
		}
		removed(p, d, "d", isFolder, api.ErrFsNone)
		removed(p, d, "l", isFolder, api.ErrFsNone)
		for _, name := range append(noNames(), points()...) {
			removed(p, root, name, isFolder, api.ErrFsName)
			removed(p, d, name, isFolder, api.ErrFsName)
			removed(p, f, name, isFolder, api.ErrFsNotDir)
			removed(p, l, name, isFolder, api.ErrFsNotDir)
		}
		for _, dir := range neverHad() {
			removed(p, dir, "d", isFolder, api.ErrFsStale)
			removed(p, dir, "", isFolder, api.ErrFsStale)
		}
	}
	p.same().sound()
}

func TestRemoveOfTheWrongKind(t *testing.T) {
	p := begin(t, 9)
	d := p.new(root, "d", folder)
	p.new(root, "empty", folder)
	p.new(d, "f", file)
	p.new(d, "l", link)
	removed(p, root, "d", false, api.ErrFsDir)
	removed(p, root, "empty", false, api.ErrFsDir)
	removed(p, d, "f", true, api.ErrFsNotDir)
	removed(p, d, "l", true, api.ErrFsNotDir)
	p.same().sound()
}

func TestRemoveOfAFolder(t *testing.T) {
	for kind := 1; kind <= 3; kind++ {
		p := begin(t, 9)
		d := p.new(root, "d", folder)
		p.new(d, "in", kind)
		haveLinks(p, root, 3)
		removed(p, root, "d", true, api.ErrFsEmpty)
		removed(p, d, "in", kind == folder, api.OK)
		haveLinks(p, d, 2)
		removed(p, root, "d", true, api.OK)
		haveLinks(p, root, 2)
		haveLinks(p, d, 0)
		lists(t, p.f, root)
		frees(t, p.f, 9, 199)
		p.same().sound()
		made(p, root, "d", fscore.Make{Kind: folder}, handle{Id: 2, Gen: 2}, api.OK)
		made(p, d, "x", fscore.Make{Kind: file}, none, api.ErrFsStale)
		looks(t, p.f, handle{Id: 2, Gen: 2}, "..", root)
		lists(t, p.f, handle{Id: 2, Gen: 2})
		p.same().sound()
	}
}

// The inode goes with its last name, whichever that is.
func TestRemoveOfOneOfSeveralNames(t *testing.T) {
	orders := [][]int{{0, 1, 2}, {0, 2, 1}, {1, 0, 2}, {1, 2, 0}, {2, 0, 1}, {2, 1, 0}}
	for _, kind := range []int{file, link} {
		for _, order := range orders {
			p := begin(t, 9)
			d := p.new(root, "d", folder)
			h := p.new(root, "a", kind)
			linked(p, h, root, "b", api.OK)
			linked(p, h, d, "a", api.OK)
			if kind == file {
				p.ok(p.write(h, 0, text(50), 8))
			}
			blocks, _ := p.f.Free()
			for k, n := range order {
				haveLinks(p, h, 3-k)
				frees(t, p.f, blocks, 197)
				removed(p, []handle{root, root, d}[n], []string{"a", "b", "a"}[n], false, api.OK)
				p.same().sound()
			}
			haveLinks(p, h, 0)
			frees(t, p.f, 9, 198)
			for n := range 3 {
				removed(p, []handle{root, root, d}[n], []string{"a", "b", "a"}[n], false, api.ErrFsNone)
			}
			linked(p, h, root, "a", api.ErrFsStale)
			p.same().sound()
		}
	}
}

// What is made where another one was has none of what that had.
func TestWhatIsMadeWhereAnotherOneWas(t *testing.T) {
	for one := 1; one <= 3; one++ {
		for other := 1; other <= 3; other++ {
			p := begin(t, 9)
			h := p.new(root, "a", one)
			if one == file {
				p.ok(p.write(h, 5, text(50), 8))
				linked(p, h, root, "b", api.OK)
				removed(p, root, "b", false, api.OK)
			}
			removed(p, root, "a", one == folder, api.OK)
			again := p.new(root, "a", other)
			if again != (handle{Id: 2, Gen: 2}) {
				t.Errorf("P17.2: Make is %v", again)
			}
			i, _ := p.f.Stat(again)
			if i.Kind != other || i.Blocks != 0 || other != link && i.Size != 0 || i.Time != other {
				t.Errorf("P17.2: Stat is %+v", i)
			}
			frees(t, p.f, 9, 198)
			p.same().sound()
		}
	}
}

// A folder's Links are 2, and those of the folders in it.
func TestLinksOfAFolder(t *testing.T) {
	p := begin(t, 9)
	a := p.new(root, "a", folder)
	b := p.new(a, "b", folder)
	c := p.new(a, "c", folder)
	d := p.new(b, "d", folder)
	p.new(a, "f", file)
	p.new(a, "l", link)
	for h, n := range map[handle]int{root: 3, a: 4, b: 3, c: 2, d: 2} {
		haveLinks(p, h, n)
	}
	removed(p, b, "d", true, api.OK)
	removed(p, a, "f", false, api.OK)
	for h, n := range map[handle]int{root: 3, a: 4, b: 2, c: 2, d: 0} {
		haveLinks(p, h, n)
	}
	removed(p, a, "b", true, api.OK)
	removed(p, a, "c", true, api.OK)
	for h, n := range map[handle]int{root: 3, a: 2, b: 0, c: 0} {
		haveLinks(p, h, n)
	}
	p.same().sound()
}
