package fcall_test

import (
	"slices"
	"testing"

	"harpsichord/api"
	"harpsichord/fscore"
)

func TestLast(t *testing.T) {
	p := begin(t, 9)
	last := func(client, number int, want answer) {
		t.Helper()
		if n, a := p.x.Last(client); n != number || !same(a, want) {
			t.Errorf("P18.2: Last(%d) is %d, %s, not %d, %s", client, n, short(a), number, short(want))
		}
	}
	last(4, 0, answer{})
	p.ok(with(4, 3, makes(root, "a", file)))
	last(4, 3, answer{H: handle{Id: 2, Gen: 1}})
	last(3, 0, answer{})
	last(5, 0, answer{})
	p.is(with(4, 2, call{Kind: kStat, H: root}), api.ErrArg)
	p.is(with(4, 4, call{Kind: kStat, H: root, N: 1}), api.ErrCallForm)
	last(4, 3, answer{H: handle{Id: 2, Gen: 1}})
	p.is(with(4, 4, makes(root, "a", file)), api.ErrFsExists)
	last(4, 4, answer{Code: api.ErrFsExists})
	p.is(with(4, 5, makes(root, "b", 9)), api.ErrArg) // fscore's: it was done
	last(4, 5, answer{Code: api.ErrArg})
	p.ok(with(4, 9, call{Kind: kList, H: root}))
	last(4, 9, answer{Names: []string{"a"}})
	p.ok(with(5, 1, writes(handle{Id: 2, Gen: 1}, 0, "b")))
	last(5, 1, answer{})
	last(4, 9, answer{Names: []string{"a"}})
	p.ok(with(4, 10, call{Kind: kStat, H: handle{Id: 2, Gen: 1}}))
	last(4, 10, answer{Info: fscore.Info{Handle: handle{Id: 2, Gen: 1}, Kind: 1, Mode: 0o640, Links: 1, Size: 1, Blocks: 1, Time: 5}})
}

// What is told is the caller's own, each time.
func TestNamesAreOwn(t *testing.T) {
	x, _, _, _, _ := filled(t)
	list := x.next(call{Kind: kList, H: root})
	_, before := x.x.Last(1)
	tell := []func() answer{
		func() answer { return x.x.Apply(list) },
		func() answer { return x.x.Apply(list) },
		func() answer { _, a := x.x.Last(1); return a },
		func() answer { _, a := x.x.Clone().Last(1); return a },
		func() answer { return x.x.Clone().Apply(list) },
		func() answer { _, a := x.x.Last(1); return a },
	}
	x.w.apply(list)
	for k, f := range tell {
		a := f()
		if !slices.Equal(a.Names, []string{"a", "b", "d"}) {
			t.Fatalf("P18.2: %d tells %q", k, a.Names)
		}
		for k := range a.Names {
			a.Names[k] = "written over"
		}
		_ = append(a.Names[:1], "more", "names", "and more")
		x.same()
	}
	if len(before.Names) != 0 {
		t.Errorf("P18.2: %q", before.Names)
	}
	copied := x.x.Clone()
	_, a := copied.Last(1)
	clear(a.Names)
	_, a = copied.Last(1)
	if !slices.Equal(a.Names, []string{"a", "b", "d"}) {
		t.Errorf("P18.2: %q", a.Names)
	}
}

// change does all that changes a file system of filled.
func change(t *testing.T, fs *fscore.Fs) {
	t.Helper()
	a, e := fs.Look(root, "a")
	d, err := fs.Make(root, "new", fscore.Make{Kind: folder})
	for _, e := range []api.Errno{e, err, fs.Write(a, 0, []byte("new"), 9), fs.Link(a, d, "new"), fs.Rename(root, "b", d, "b"), fs.Remove(root, "d", false), fs.Cut(a, 2, 9)} {
		if e != api.OK {
			t.Fatal(e)
		}
	}
}

func TestFsIsACopy(t *testing.T) {
	x, a, _, _, _ := filled(t)
	first, second := x.x.Fs(), x.x.Fs()
	was := tree(second)
	change(t, first)
	if is := tree(second); !slices.Equal(is, was) {
		t.Errorf("P18.2: two copies are one: %q, %q", was, is)
	}
	x.same()
	x.ok(x.next(call{Kind: kRemove, H: root, Name: "a"}))
	x.ok(x.next(makes(root, "e", file)))
	if is := tree(second); !slices.Equal(is, was) {
		t.Errorf("P18.2: the copy has changed: %q, %q", was, is)
	}
	if _, e := second.Stat(a); e != api.OK {
		t.Errorf("P18.2: the copy has changed: %d", e)
	}
	x.same()
}

func TestClone(t *testing.T) {
	x, a, b, c, d := filled(t)
	x.ok(with(7, 3, call{Kind: kList, H: root}))
	y := x.clone()
	x.same()
	y.same()
	x.ok(with(7, 4, writes(a, 0, "x's")))
	x.ok(with(8, 1, makes(b, "x's", file)))
	x.ok(with(1, 6, call{Kind: kRemove, H: b, Name: "c"}))
	x.same()
	y.same()
	y.is(with(1, 5, call{Kind: kTarget, H: d}), api.OK) // done already, as a Make
	y.ok(with(7, 3, call{Kind: kTarget, H: d}))
	y.ok(with(1, 6, writes(c, 5, "y's")))
	y.ok(with(9, 1, makes(root, "y's", folder)))
	z := y.clone()
	y.ok(with(9, 2, call{Kind: kRemove, H: root, Name: "y's", Folder: true}))
	z.ok(with(9, 2, makes(root, "z's", folder)))
	x.same()
	y.same()
	z.same()
	if n, _ := x.x.Last(9); n != 0 {
		t.Errorf("P18.2: Last is %d", n)
	}
}

// A clone has as many clients, and may have others then.
func TestCloneOfManyClients(t *testing.T) {
	p := begin(t, 9)
	for k := range mostClients - 1 {
		p.ok(with(1+k, 1, call{Kind: kStat, H: root}))
	}
	q := p.clone()
	p.ok(with(500, 1, call{Kind: kStat, H: root}))
	q.ok(with(600, 1, call{Kind: kStat, H: root}))
	p.is(with(600, 1, call{Kind: kStat, H: root}), api.ErrArg)
	q.is(with(500, 1, call{Kind: kStat, H: root}), api.ErrArg)
	p.clone().is(with(501, 1, call{Kind: kStat, H: root}), api.ErrArg)
	p.same()
	q.same()
}

// Two tables do not touch each other.
func TestTwoTables(t *testing.T) {
	x, a, _, _, _ := filled(t)
	y, _, _, _, _ := filled(t)
	x.ok(x.next(writes(a, 0, "x")))
	y.ok(with(2, 1, call{Kind: kRemove, H: root, Name: "a"}))
	x.ok(with(2, 1, makes(root, "x", file)))
	y.ok(with(2, 2, makes(root, "y", link)))
	x.same()
	y.same()
}
