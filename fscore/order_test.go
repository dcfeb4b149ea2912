package fscore_test

import (
	"fmt"
	"testing"

	"harpsichord/api"
	"harpsichord/fscore"
)

// house has something of each kind: folders that are empty, full of names, of MaxLinks; files of one name, of two, of MaxLinks; and handles that are stale.
type house struct {
	*pair
	dirs, all []handle // folders; inodes of all kinds, and stale handles
	names     []string // that are there somewhere, or nowhere, or are none
}

func build(t *testing.T) *house {
	t.Helper()
	p := begin(t, 12)
	gone := p.new(root, "gone", file)
	p.ok(p.remove(root, "gone", false))
	again := p.new(root, "again", folder)
	f := p.new(root, "file", file)
	p.ok(p.write(f, 0, text(40), 7))
	l := p.new(root, "link", link)
	empty := p.new(root, "empty", folder)
	many := p.new(root, "many", folder)
	sub := p.new(many, "sub", folder)
	p.new(many, "leaf", file)
	full := p.new(root, "full", folder)
	p.fill(full, folder, 18)
	p.ok(p.link(f, full, "file"))
	p.ok(p.link(l, many, "twin"))
	most := p.new(root, "most", link)
	for k := range 19 {
		p.ok(p.link(most, again, fmt.Sprint(k)))
	}
	unused := p.new(root, "unused", folder)
	p.ok(p.remove(root, "unused", true))
	h := &house{pair: p}
	h.dirs = []handle{root, again, empty, many, sub, full}
	h.all = append([]handle{gone, unused, none, f, l, most}, h.dirs...)
	h.names = []string{"", ".", "..", "a/b", long(61), "nowhere", "again", "file", "link", "empty", "many", "sub", "leaf", "twin", "full", "most", "2-0", "7"}
	return h
}

// tried does a call to what is the same as the house, and asks for all that is told behind it.
func (h *house) tried(act func(p *pair)) {
	h.t.Helper()
	p := h.clone()
	act(p)
	p.same().sound()
}

func TestWhichErrorComesFirstOfLook(t *testing.T) {
	h := build(t)
	for _, dir := range append(h.all, neverHad()...) {
		for _, name := range append(h.names, noNames()...) {
			h.looks(dir, name)
		}
	}
	h.same().sound()
}

func TestWhichErrorComesFirstOfMake(t *testing.T) {
	h := build(t)
	var l []fscore.Make
	for kind := range 5 {
		for _, s := range []string{"", "x", long(101)} {
			l = append(l, fscore.Make{Kind: kind, Target: s}, fscore.Make{Kind: kind, Target: s, Mode: 4096}, fscore.Make{Kind: kind, Target: s, Time: -1})
		}
	}
	for _, dir := range h.all {
		for _, name := range h.names {
			for _, m := range l {
				h.tried(func(p *pair) { p.make(dir, name, m) })
			}
		}
	}
}

// The same where there are MaxInodes inodes.
func TestWhichErrorComesFirstOfMakeWhereInodesAreFull(t *testing.T) {
	h := build(t)
	_, inodes := h.f.Free()
	h.fill(h.dirs[1], file, inodes)
	for _, dir := range h.all {
		for _, name := range h.names {
			for kind := range 5 {
				for _, s := range []string{"", "x"} {
					if _, e := h.make(dir, name, fscore.Make{Kind: kind, Target: s}); e == api.OK {
						t.Fatalf("P17.2: Make(%v, %q) of kind %d is OK", dir, name, kind)
					}
				}
			}
		}
	}
	h.same().sound()
}

func TestWhichErrorComesFirstOfLink(t *testing.T) {
	h := build(t)
	for _, x := range h.all {
		for _, dir := range h.all {
			for _, name := range h.names {
				h.tried(func(p *pair) { p.link(x, dir, name) })
			}
		}
	}
}

func TestWhichErrorComesFirstOfRemove(t *testing.T) {
	h := build(t)
	for _, dir := range h.all {
		for _, name := range h.names {
			for _, isFolder := range []bool{false, true} {
				h.tried(func(p *pair) { p.remove(dir, name, isFolder) })
			}
		}
	}
}

func TestWhichErrorComesFirstOfRename(t *testing.T) {
	h := build(t)
	for _, from := range h.all {
		for _, to := range h.all {
			for _, name := range h.names {
				for _, other := range h.names {
					if h.w.clone().rename(from, name, to, other) == api.OK {
						h.tried(func(p *pair) { p.rename(from, name, to, other) })
					} else {
						h.rename(from, name, to, other)
					}
				}
			}
			h.same()
		}
	}
}

func TestWhichErrorComesFirstOfReadWriteAndCut(t *testing.T) {
	h := build(t)
	places := []int{0, 30, mostFile - 1, mostFile, mostFile + 1, -1}
	for _, x := range h.all {
		for _, at := range places {
			for _, time := range []int{0, mostClock, -1, mostClock + 1} {
				for _, n := range []int{0, 1, 500} {
					h.tried(func(p *pair) { p.write(x, at, text(n), time) })
				}
				h.tried(func(p *pair) { p.cut(x, at, time) })
			}
			for _, n := range places {
				h.reads(x, at, n)
			}
		}
	}
	h.same().sound()
}

// Some calls to which several errors apply at once, each with the one that comes first.
func TestCallsToWhichSeveralErrorsApply(t *testing.T) {
	h := build(t)
	stale, f, l, most := h.all[0], h.all[3], h.all[4], h.all[5]
	many, full := h.dirs[3], h.dirs[5]
	for k, x := range []struct{ is, want api.Errno }{
		{h.link(stale, f, ""), api.ErrFsStale},
		{h.link(f, stale, ""), api.ErrFsStale},
		{h.link(root, stale, ""), api.ErrFsStale},
		{h.link(root, f, ""), api.ErrFsNotDir},
		{h.link(f, l, ".."), api.ErrFsNotDir},
		{h.link(root, many, ""), api.ErrFsName},
		{h.link(root, many, "sub"), api.ErrFsDir},
		{h.link(most, many, "sub"), api.ErrFsExists},
		{h.link(most, many, "new"), api.ErrFsLinks},
		{h.remove(stale, "", true), api.ErrFsStale},
		{h.remove(f, "", true), api.ErrFsNotDir},
		{h.remove(f, "file", true), api.ErrFsNotDir},
		{h.remove(root, "..", true), api.ErrFsName},
		{h.remove(root, "many", false), api.ErrFsDir},
		{h.rename(stale, "", f, ""), api.ErrFsStale},
		{h.rename(f, "", stale, ""), api.ErrFsStale},
		{h.rename(root, "nowhere", stale, "x"), api.ErrFsStale},
		{h.rename(f, "", root, ""), api.ErrFsNotDir},
		{h.rename(root, "", f, ""), api.ErrFsNotDir},
		{h.rename(root, "nowhere", l, "x"), api.ErrFsNotDir},
		{h.rename(root, "nowhere", root, ""), api.ErrFsName},
		{h.rename(root, "", root, "x"), api.ErrFsName},
		{h.rename(root, "many", many, "."), api.ErrFsName},
		{h.rename(root, "nowhere", many, "sub"), api.ErrFsNone},
		{h.rename(root, "many", many, "leaf"), api.ErrFsLoop},
		{h.rename(root, "full", full, "new"), api.ErrFsLoop},
		{h.rename(root, "many", full, "file"), api.ErrFsNotDir},
		{h.rename(root, "file", root, "many"), api.ErrFsDir},
		{h.rename(root, "full", root, "many"), api.ErrFsEmpty},
		{h.write(stale, -1, nil, -1), api.ErrFsStale},
		{h.write(root, -1, nil, -1), api.ErrFsDir},
		{h.write(root, mostFile+1, nil, 0), api.ErrFsDir},
		{h.write(l, mostFile+1, nil, 0), api.ErrArg},
		{h.write(f, mostFile+1, nil, -1), api.ErrArg},
		{h.write(f, 0, text(500), mostClock+1), api.ErrArg},
		{h.cut(stale, -1, -1), api.ErrFsStale},
		{h.cut(root, -1, -1), api.ErrFsDir},
		{h.cut(l, mostFile+1, 0), api.ErrArg},
		{h.cut(f, mostFile+1, -1), api.ErrArg},
	} {
		if x.is != x.want {
			t.Errorf("call %d is %d, not %d", k, x.is, x.want)
		}
	}
	h.same().sound()
}

func TestMakesToWhichSeveralErrorsApply(t *testing.T) {
	h := build(t)
	stale, f, full := h.all[0], h.all[3], h.dirs[5]
	for k, x := range []struct {
		dir  handle
		name string
		m    fscore.Make
		want api.Errno
	}{
		{stale, "", fscore.Make{}, api.ErrFsStale},
		{f, "", fscore.Make{}, api.ErrFsNotDir},
		{root, "", fscore.Make{}, api.ErrFsName},
		{root, "file", fscore.Make{}, api.ErrArg},
		{full, "2-0", fscore.Make{Kind: folder}, api.ErrFsExists},
		{full, "new", fscore.Make{Kind: folder, Time: -1}, api.ErrArg},
		{full, "new", fscore.Make{Kind: folder}, api.ErrFsLinks},
	} {
		if _, e := h.make(x.dir, x.name, x.m); e != x.want {
			t.Errorf("P17.2: Make %d is %d, not %d", k, e, x.want)
		}
	}
	h.same().sound()
}
