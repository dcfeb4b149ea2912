package fscore_test

import (
	"math"
	"testing"

	"harpsichord/api"
	"harpsichord/fscore"
)

// isStale asks of each call that it refuses a handle, wherever that stands, as stale.
func isStale(p *pair, h, dir handle) {
	p.t.Helper()
	for k, x := range []struct {
		is, want api.Errno
	}{
		{p.link(h, dir, "new"), api.ErrFsStale},
		{p.link(dir, h, "new"), api.ErrFsStale},
		{p.link(h, h, "new"), api.ErrFsStale},
		{p.remove(h, "a", false), api.ErrFsStale},
		{p.remove(h, "a", true), api.ErrFsStale},
		{p.rename(h, "a", dir, "new"), api.ErrFsStale},
		{p.rename(dir, "a", h, "new"), api.ErrFsStale},
		{p.rename(h, "a", h, "a"), api.ErrFsStale},
		{p.write(h, 0, []byte("a"), 1), api.ErrFsStale},
		{p.write(h, 0, nil, 1), api.ErrFsStale},
		{p.cut(h, 0, 1), api.ErrFsStale},
	} {
		if x.is != x.want {
			p.fail("P17.6", "call %d of %v is %d", k, h, x.is)
		}
	}
	for kind := 1; kind <= 3; kind++ {
		made(p, h, "new", fscore.Make{Kind: kind}, none, api.ErrFsStale)
	}
	for _, name := range []string{"a", ".", "..", ""} {
		if x, e := p.f.Look(h, name); x != none || e != api.ErrFsStale {
			p.fail("P17.6", "Look(%v, %q) is %v, %d", h, name, x, e)
		}
	}
	refusesRead(p, h, 0, 9, api.ErrFsStale)
	if i, e := p.f.Stat(h); i != (fscore.Info{}) || e != api.ErrFsStale {
		p.fail("P17.6", "Stat(%v) is %+v, %d", h, i, e)
	}
	if l, e := p.f.List(h); len(l) != 0 || e != api.ErrFsStale {
		p.fail("P17.6", "List(%v) is %q, %d", h, l, e)
	}
	if s, e := p.f.Target(h); s != "" || e != api.ErrFsStale {
		p.fail("P17.6", "Target(%v) is %q, %d", h, s, e)
	}
}

func TestHandlesThatWereNeverTold(t *testing.T) {
	p := begin(t, 9)
	d := p.new(root, "a", folder)
	for _, h := range neverHad() {
		isStale(p, h, root)
		isStale(p, h, d)
	}
	for _, h := range []handle{d, root} {
		for _, gen := range []int{0, -1, h.Gen + 1, h.Gen + 256, h.Gen + 1<<32, math.MaxInt, math.MinInt} {
			isStale(p, handle{Id: h.Id, Gen: gen}, root)
		}
		for _, id := range []int{h.Id + 2, h.Id + 200, h.Id + 256, h.Id + 1<<16, h.Id + 1<<32, -h.Id} {
			isStale(p, handle{Id: id, Gen: h.Gen}, root)
		}
	}
	p.same().sound()
}

// A handle that is stale stays stale, whatever has its number later.
func TestAHandleThatIsStaleStaysStale(t *testing.T) {
	p := begin(t, 9)
	stays := p.new(root, "stays", folder)
	var gone []handle
	for k := range 12 {
		kind := 1 + k%3
		h := p.new([]handle{root, stays}[k%2], "a", kind)
		if h != (handle{Id: 3, Gen: k + 1}) {
			t.Fatalf("P17.2: Make is %v", h)
		}
		for _, x := range append(gone, handle{Id: 3, Gen: k + 2}) {
			isStale(p, x, root)
			isStale(p, x, stays)
		}
		p.has(h)
		gone = append(gone, h)
		p.ok(p.remove([]handle{root, stays}[k%2], "a", kind == folder))
		for _, x := range gone {
			isStale(p, x, stays)
		}
	}
	q := p.clone()
	for _, x := range gone {
		isStale(q, x, root)
	}
	p.same().sound()
}

// What a Rename takes away is stale as well.
func TestWhatWasRenamedOverIsStale(t *testing.T) {
	for kind := 1; kind <= 3; kind++ {
		p := begin(t, 9)
		d := p.new(root, "a", folder)
		x, y := p.new(root, "x", kind), p.new(d, "y", kind)
		renamed(p, root, "x", d, "y", api.OK)
		isStale(p, y, d)
		p.has(x)
		again := p.new(root, "x", kind)
		if again != (handle{Id: y.Id, Gen: 2}) {
			t.Errorf("P17.2: Make is %v", again)
		}
		isStale(p, y, root)
		p.same().sound()
	}
}
