package ztree_test

import (
	"fmt"
	"math"
	"slices"
	"strings"
	"testing"

	"harpsichord/api"
	"harpsichord/ztree"
)

// loaded asks that a list is a tree's, which has just these znodes.
func loaded(t *testing.T, l ...api.Znode) *ztree.Tree {
	t.Helper()
	z := load(t, l)
	holds(t, "P8.4", z, l...)
	return z
}

// notLoaded asks for an error of a list.
func notLoaded(t *testing.T, want api.Errno, l ...api.Znode) {
	t.Helper()
	if z, e := ztree.Load(l); z != nil || e != want {
		t.Errorf("P8.4: Load(%s) is %v, %d, not %d", short(l), z != nil, e, want)
	}
}

func node(path string) api.Znode {
	return api.Znode{Path: path}
}

// owned is an ephemeral znode of session 5.
func owned(path string) api.Znode {
	return api.Znode{Path: path, Stat: api.Stat{Owner: 5}}
}

func data(path string, n int) api.Znode {
	return api.Znode{Path: path, Data: long(n)}
}

// numbered are copies of x of which each has n in another one of its numbers.
func numbered(x api.Znode, n int) []api.Znode {
	var l []api.Znode
	for k := range 7 {
		y := x
		*[]*int{&y.Stat.Created, &y.Stat.Changed, &y.Stat.Children, &y.Stat.Version, &y.Stat.Kids, &y.Stat.Owner, &y.Next}[k] = n
		l = append(l, y)
	}
	return l
}

// nodes are n znodes, of which the first one is the root.
func nodes(n int) []api.Znode {
	l := []api.Znode{node("/")}
	for k := range n - 1 {
		l = append(l, node(fmt.Sprintf("/n%03d", k)))
	}
	return l
}

func TestLoad(t *testing.T) {
	loaded(t, node("/"))
	loaded(t, node("/"), node("/a"))
	loaded(t, node("/"), node("/a"), node("/a-"), node("/a-/b"), node("/a.b"), owned("/a/b"), node("/a0"), node("/ab"))
	loaded(t,
		api.Znode{Path: "/", Data: "r", Next: 9, Stat: api.Stat{Created: 1, Changed: 2, Children: 3, Version: 4, Kids: 5}},
		api.Znode{Path: "/a", Data: "x\x00\xff", Next: 7, Stat: api.Stat{Created: 6, Changed: 5, Children: 4, Version: 3, Kids: 2}}, // of which no child is left
		api.Znode{Path: "/b", Stat: api.Stat{Owner: 5}},
		api.Znode{Path: "/b-", Stat: api.Stat{Owner: top}},
		api.Znode{Path: "/c", Data: long(api.MaxText)},
		api.Znode{Path: "/c/d"}) // whose parent made none, as it says
	deep := []api.Znode{node("/")}
	for n := range api.MaxDepth {
		deep = append(deep, node(strings.Repeat("/d", n+1)))
	}
	loaded(t, deep...)
}

func TestLoadWithoutARootAhead(t *testing.T) {
	notLoaded(t, api.ErrTreeNone)
	if z, e := ztree.Load([]api.Znode{}); z != nil || e != api.ErrTreeNone {
		t.Errorf("P8.4: Load of an empty list is %v, %d", z != nil, e)
	}
	for _, path := range append(noPaths(), "/a", "/a/b", "/-") {
		notLoaded(t, api.ErrTreeNone, node(path))
		notLoaded(t, api.ErrTreeNone, node(path), node("/"))
		notLoaded(t, api.ErrTreeNone, node(path), node("/"), node("/a"))
		notLoaded(t, api.ErrTreeNone, append([]api.Znode{node(path)}, nodes(api.MaxNodes)...)...)
	}
	notLoaded(t, api.ErrTreeNone, data("/a", api.MaxText+1))
	notLoaded(t, api.ErrTreeNone, owned("/a"))
	notLoaded(t, api.ErrTreeNone, make([]api.Znode, api.MaxNodes)...)
	notLoaded(t, api.ErrTreeNone, make([]api.Znode, api.MaxNodes+1)...)
}

func TestLoadOfMany(t *testing.T) {
	for _, n := range []int{api.MaxNodes - 1, api.MaxNodes} {
		z := loaded(t, nodes(n)...)
		if n == api.MaxNodes {
			refused(t, z, 1, 0, api.ErrTreeFull, create("/a"))
		}
	}
	for _, n := range []int{api.MaxNodes + 1, api.MaxNodes + 2, 2 * api.MaxNodes, 5000} {
		notLoaded(t, api.ErrTreeFull, nodes(n)...)
	}
	l := nodes(api.MaxNodes + 1)
	for _, bad := range []api.Znode{node("no path"), node("/"), node("/none/x"), data("/a", api.MaxText+1), {Path: "/a", Next: -1}} {
		for _, at := range []int{1, 100, api.MaxNodes} {
			all := slices.Clone(l)
			all[at] = bad
			notLoaded(t, api.ErrTreeFull, all...)
		}
	}
	l[0] = owned("/")
	notLoaded(t, api.ErrTreeFull, l...)
	l[0] = data("/", api.MaxText+1)
	notLoaded(t, api.ErrTreeFull, l...)
}

func TestLoadOfNoPaths(t *testing.T) {
	for _, path := range noPaths() {
		notLoaded(t, api.ErrNameForm, node("/"), node(path))
		notLoaded(t, api.ErrNameForm, node("/"), node("/a"), node("/zz"), node(path))
	}
}

func TestLoadOfPathsThatDoNotRise(t *testing.T) {
	notLoaded(t, api.ErrTreeExists, node("/"), node("/"))
	notLoaded(t, api.ErrTreeExists, node("/"), node("/a"), node("/"))
	notLoaded(t, api.ErrTreeExists, node("/"), node("/a"), node("/a"))
	notLoaded(t, api.ErrTreeExists, node("/"), node("/b"), node("/a"))
	notLoaded(t, api.ErrTreeExists, node("/"), node("/a"), node("/a/b"), node("/a-")) // a dash is below a slash
	notLoaded(t, api.ErrTreeExists, node("/"), node("/a"), node("/a/b"), node("/a.b"))
	notLoaded(t, api.ErrTreeExists, node("/"), node("/a0"), node("/a"))
	notLoaded(t, api.ErrTreeExists, node("/"), node("/a"), node("/B"))
	notLoaded(t, api.ErrTreeExists, node("/"), node("/a"), node("/b"), node("/a/x"))
	notLoaded(t, api.ErrTreeExists, node("/"), node("/a"), node("/c"), node("/b/x")) // whose parent is not there either
	notLoaded(t, api.ErrTreeExists, node("/"), owned("/a"), node("/c"), node("/a/x"))
}

func TestLoadWithoutAParent(t *testing.T) {
	notLoaded(t, api.ErrTreeParent, node("/"), node("/a/b"))
	notLoaded(t, api.ErrTreeParent, node("/"), node("/a/b"), node("/a"))
	notLoaded(t, api.ErrTreeParent, node("/"), node("/a-/b"), node("/a-"), node("/b"))
	notLoaded(t, api.ErrTreeParent, node("/"), node("/a"), node("/a/b/c"))
	notLoaded(t, api.ErrTreeParent, node("/"), node("/a"), node("/ab/c"))
	notLoaded(t, api.ErrTreeParent, node("/"), node("/ab"), node("/b/c"))
	notLoaded(t, api.ErrTreeParent, node("/"), owned("/a"), node("/a/b/c"))
}

func TestLoadBelowAnEphemeralZnode(t *testing.T) {
	notLoaded(t, api.ErrTreeOwned, node("/"), owned("/a"), node("/a/b"))
	notLoaded(t, api.ErrTreeOwned, node("/"), owned("/a"), node("/a-"), node("/a/b"))
	notLoaded(t, api.ErrTreeOwned, node("/"), owned("/a"), owned("/a/b"))
	notLoaded(t, api.ErrTreeOwned, node("/"), node("/a"), owned("/a/b"), node("/a/b/c"))
	loaded(t, node("/"), owned("/a"), node("/a-"), node("/a-/b"), owned("/a0"))
}

func TestLoadOfARootWithAnOwner(t *testing.T) {
	for _, owner := range []int{1, 5, -1, top, top + 1, math.MinInt, math.MaxInt} {
		root := api.Znode{Path: "/", Stat: api.Stat{Owner: owner}}
		notLoaded(t, api.ErrTreeOwned, root)
		notLoaded(t, api.ErrTreeOwned, root, node("/a"))
		notLoaded(t, api.ErrTreeOwned, root, node("no path"))
		root.Data, root.Next = long(api.MaxText+1), -1
		notLoaded(t, api.ErrTreeOwned, root)
	}
}

func TestLoadOfLongData(t *testing.T) {
	loaded(t, data("/", api.MaxText), data("/a", api.MaxText-1), data("/b", api.MaxText))
	for _, n := range []int{api.MaxText + 1, api.MaxText + 2, 4096, 1<<16 + 1} {
		notLoaded(t, api.ErrTreeLong, data("/", n))
		notLoaded(t, api.ErrTreeLong, node("/"), data("/a", n))
		notLoaded(t, api.ErrTreeLong, node("/"), node("/a"), data("/b", n), node("/c"))
	}
}

func TestLoadOfNumbers(t *testing.T) {
	for _, n := range []int{0, 1, top - 1, top} {
		for k, x := range numbered(node("/"), n) {
			if k != 5 { // a root's Owner is another error's
				loaded(t, x, node("/a"))
			}
		}
		for _, x := range numbered(node("/a"), n) {
			loaded(t, node("/"), x)
		}
	}
	for _, n := range []int{-1, -2, top + 1, top + 2, -top, math.MinInt, math.MaxInt, math.MinInt32} {
		for k, x := range numbered(node("/"), n) {
			if k != 5 {
				notLoaded(t, api.ErrArg, x)
				notLoaded(t, api.ErrArg, x, node("/a"))
			}
		}
		for _, x := range numbered(node("/a"), n) {
			notLoaded(t, api.ErrArg, node("/"), x)
			notLoaded(t, api.ErrArg, node("/"), x, node("/b"))
		}
		for _, x := range numbered(node("/a/b"), n) {
			notLoaded(t, api.ErrArg, node("/"), node("/a"), x)
		}
	}
}

// Where several errors of one znode apply, the first one is told.
func TestErrorsOfLoadInOrder(t *testing.T) {
	ahead := []api.Znode{node("/"), owned("/e"), node("/g")}
	for _, c := range []struct {
		path string
		want api.Errno
	}{{"no path", api.ErrNameForm}, {"/e/x", api.ErrTreeExists}, {"/a/x", api.ErrTreeExists}, {"/", api.ErrTreeExists}, {"/g", api.ErrTreeExists}, {"/none/x", api.ErrTreeParent}, {"/h", api.ErrTreeLong}} {
		x := data(c.path, api.MaxText+1)
		x.Stat.Owner = -1
		notLoaded(t, c.want, append(ahead, x)...)
	}
	x := data("/e/x", api.MaxText+1)
	x.Next = -1
	notLoaded(t, api.ErrTreeOwned, node("/"), owned("/e"), x)
	notLoaded(t, api.ErrTreeOwned, node("/"), owned("/e"), api.Znode{Path: "/e/x", Next: -1})
	notLoaded(t, api.ErrTreeOwned, node("/"), owned("/e"), data("/e/x", api.MaxText+1))
}

// Of several znodes with which something is amiss the first one's error is told.
func TestFirstErrorOfLoad(t *testing.T) {
	bad := []struct {
		l    []api.Znode // the last one is amiss
		want api.Errno
	}{
		{[]api.Znode{node("x")}, api.ErrNameForm},
		{[]api.Znode{node("/")}, api.ErrTreeExists},
		{[]api.Znode{node("/none/x")}, api.ErrTreeParent},
		{[]api.Znode{owned("/o"), node("/o/x")}, api.ErrTreeOwned},
		{[]api.Znode{data("/q", api.MaxText+1)}, api.ErrTreeLong},
		{[]api.Znode{{Path: "/q", Next: -1}}, api.ErrArg},
	}
	for _, first := range bad {
		notLoaded(t, first.want, join([]api.Znode{node("/"), node("/a")}, first.l)...)
		for _, second := range bad {
			notLoaded(t, first.want, join([]api.Znode{node("/"), node("/a")}, first.l, []api.Znode{node("/r")}, second.l)...)
		}
	}
	for _, second := range bad {
		notLoaded(t, api.ErrTreeLong, join([]api.Znode{data("/", api.MaxText+1)}, second.l)...)
		notLoaded(t, api.ErrArg, join([]api.Znode{{Path: "/", Next: -1}}, second.l)...)
	}
	notLoaded(t, api.ErrArg, node("/"), api.Znode{Path: "/e", Stat: api.Stat{Owner: -1}}, node("/e/x"))
}

// A tree that was loaded goes on from what the list says.
func TestLoadGoesOn(t *testing.T) {
	z := load(t, []api.Znode{{Path: "/", Next: 4}, {Path: "/a", Next: 41, Stat: api.Stat{Version: 3, Kids: 50}}, owned("/a/e"), {Path: "/a/n-0000000043"}})
	told(t, z, 2, 0, []string{"/a/n-0000000041", "/n-0000000004", "/a", "/a/n-0000000042"}, join(made("/a/n-0000000041"), made("/n-0000000004"), []api.Event{event(api.Changed, "/a")}, made("/a/n-0000000042")), sequence("/a/n-"), sequence("/n-"), set("/a", "x", 3), sequence("/a/n-"))
	refused(t, z, 3, 0, api.ErrTreeExists, sequence("/a/n-"))
	refused(t, z, 3, 0, api.ErrTreeOwned, create("/a/e/x"))
	refused(t, z, 3, 0, api.ErrTreeChildren, remove("/a", -1))
	ended(t, z, 4, 5, gone("/a/e")...)
	if x := get(t, z, "/a"); x != (api.Znode{Path: "/a", Data: "x", Next: 43, Stat: api.Stat{Changed: 2, Children: 4, Version: 4, Kids: 53}}) {
		t.Errorf("P8.4: %+v", x)
	}
}
