package ztree_test

import (
	"fmt"
	"maps"
	"math"
	"slices"
	"strings"
	"testing"

	"harpsichord/api"
	"harpsichord/ztree"
)

// top is the greatest of a znode's numbers.
const top = 1 << 62

// greatest is the last number that has ten digits.
const greatest = 9999999999

func create(path string) api.Change {
	return api.Change{Kind: api.Create, Path: path}
}

func createData(path, data string) api.Change {
	return api.Change{Kind: api.Create, Path: path, Data: data}
}

func ephemeral(path string) api.Change {
	return api.Change{Kind: api.Create, Path: path, Ephemeral: true}
}

func sequence(path string) api.Change {
	return api.Change{Kind: api.Create, Path: path, Sequence: true}
}

func remove(path string, version int) api.Change {
	return api.Change{Kind: api.Delete, Path: path, Version: version}
}

func set(path, data string, version int) api.Change {
	return api.Change{Kind: api.SetTo, Path: path, Data: data, Version: version}
}

func check(path string, version int) api.Change {
	return api.Change{Kind: api.Check, Path: path, Version: version}
}

func event(kind int, path string) api.Event {
	return api.Event{Kind: kind, Path: path}
}

// made and gone are the events of a znode that is created, and deleted.
func made(path string) []api.Event {
	return []api.Event{event(api.Created, path), event(api.Children, parentOf(path))}
}

func gone(path string) []api.Event {
	return []api.Event{event(api.Deleted, path), event(api.Children, parentOf(path))}
}

// join lays lists one behind the other.
func join[T any](l ...[]T) []T {
	return slices.Concat(l...)
}

// parentOf is a path without its last name; nothing of a slash.
func parentOf(path string) string {
	if path == "/" {
		return ""
	}
	at := strings.LastIndex(path, "/")
	return path[:max(at, 1)]
}

// nameOf is a path's last name.
func nameOf(path string) string {
	return path[strings.LastIndex(path, "/")+1:]
}

func long(n int) string {
	return strings.Repeat("x", n)
}

// short is anything as a line that can be read, however long it is.
func short(x any) string {
	s := strings.ToValidUTF8(fmt.Sprintf("%+v", x), "?")
	return s[:min(len(s), 1200)]
}

// without are numbers that no zxid and no session can be.
func without() []int {
	return []int{-1, -2, -top, math.MinInt, math.MinInt32, top + 1, top + 2, math.MaxInt}
}

// within are numbers that they can be.
func within() []int {
	return []int{0, 1, math.MaxInt32 + 1, top - 1, top}
}

// do asks that changes are done, and tells nothing of what they told.
func do(t *testing.T, z *ztree.Tree, zxid, session int, l ...api.Change) {
	t.Helper()
	paths, _, e := z.Do(zxid, session, l)
	if e != api.OK || len(paths) != len(l) {
		t.Fatalf("P8.1: Do(%d, %d, %s) is %s, %d", zxid, session, short(l), short(paths), e)
	}
}

// told asks that changes are done, and for what they tell.
func told(t *testing.T, z *ztree.Tree, zxid, session int, paths []string, events []api.Event, l ...api.Change) {
	t.Helper()
	p, v, e := z.Do(zxid, session, l)
	if e != api.OK || !slices.Equal(p, paths) || !slices.Equal(v, events) {
		t.Fatalf("P8.1: Do(%d, %d, %s) is %s, %s, %d, not %s, %s", zxid, session, short(l), short(p), short(v), e, short(paths), short(events))
	}
}

// refused asks for an error, and that nothing is done.
func refused(t *testing.T, z *ztree.Tree, zxid, session int, want api.Errno, l ...api.Change) {
	t.Helper()
	was := picture(z)
	p, v, e := z.Do(zxid, session, l)
	if e != want || len(p) != 0 || len(v) != 0 {
		t.Errorf("P8.1: Do(%d, %d, %s) is %s, %s, %d, not %d", zxid, session, short(l), short(p), short(v), e, want)
	}
	if is := picture(z); is != was {
		t.Errorf("P8.5: behind Do(%d, %d, %s), which was refused: %s, not %s", zxid, session, short(l), short(is), short(was))
	}
}

// ended asks for the events of a session's end.
func ended(t *testing.T, z *ztree.Tree, zxid, session int, want ...api.Event) {
	t.Helper()
	if l := z.End(zxid, session); !slices.Equal(l, want) {
		t.Fatalf("P8.2: End(%d, %d) is %s, not %s", zxid, session, short(l), short(want))
	}
}

// tree is a new one on which these changes were done with zxid 1, for session 5.
func tree(t *testing.T, l ...api.Change) *ztree.Tree {
	t.Helper()
	z := ztree.New()
	if z == nil {
		t.Fatal("P8.1: New is nothing")
	}
	do(t, z, 1, 5, l...)
	return z
}

// load is the tree of a list.
func load(t *testing.T, l []api.Znode) *ztree.Tree {
	t.Helper()
	z, e := ztree.Load(l)
	if e != api.OK || z == nil {
		t.Fatalf("P8.4: Load(%s) is %v, %d", short(l), z != nil, e)
	}
	return z
}

// full is a tree of MaxNodes znodes: the root, /a, the ephemeral /e of session 5, and /n000, /n001, ..
func full(t *testing.T) *ztree.Tree {
	t.Helper()
	z := tree(t, create("/a"), ephemeral("/e"))
	for k := range api.MaxNodes - 3 {
		do(t, z, 1, 0, create(fmt.Sprintf("/n%03d", k)))
	}
	return z
}

// get is a znode that has to be there.
func get(t *testing.T, z *ztree.Tree, path string) api.Znode {
	t.Helper()
	x, is := z.Get(path)
	if !is {
		t.Fatalf("P8.3: Get(%s) is false", path)
	}
	return x
}

// picture is all that a tree tells, as a text.
func picture(z *ztree.Tree) string {
	var b strings.Builder
	fmt.Fprintf(&b, "%+v", z.All())
	for _, x := range z.All() {
		same, is := z.Get(x.Path)
		kids, has := z.Kids(x.Path)
		fmt.Fprintf(&b, " %v %v %q %v %q", same == x, is, kids, has, z.Owned(x.Stat.Owner))
	}
	return b.String()
}

// holds asks for just these znodes (by rising paths), by all calls that look.
func holds(t *testing.T, what string, z *ztree.Tree, want ...api.Znode) {
	t.Helper()
	if l := z.All(); !slices.Equal(l, want) {
		t.Fatalf("%s: All is %s, not %s", what, short(l), short(want))
	}
	kids, owned := map[string][]string{}, map[int][]string{0: nil, 1: nil, 5: nil, -1: nil, top: nil}
	for _, x := range want {
		kids[parentOf(x.Path)] = append(kids[parentOf(x.Path)], nameOf(x.Path))
		if x.Stat.Owner != 0 {
			owned[x.Stat.Owner] = append(owned[x.Stat.Owner], x.Path)
		}
	}
	for _, x := range want {
		if got, is := z.Get(x.Path); !is || got != x {
			t.Fatalf("%s: Get(%s) is %s, %v, not %s", what, x.Path, short(got), is, short(x))
		}
		slices.Sort(kids[x.Path])
		if l, is := z.Kids(x.Path); !is || !slices.Equal(l, kids[x.Path]) {
			t.Fatalf("%s: Kids(%s) is %s, %v, not %s", what, x.Path, short(l), is, short(kids[x.Path]))
		}
		missing(t, what, z, x.Path+"x")
	}
	for session, l := range owned {
		if got := z.Owned(session); !slices.Equal(got, l) {
			t.Fatalf("%s: Owned(%d) is %s, not %s", what, session, short(got), short(l))
		}
	}
}

// missing asks that there is no znode at a path, unless All has it.
func missing(t *testing.T, what string, z *ztree.Tree, path string) {
	t.Helper()
	if slices.ContainsFunc(z.All(), func(x api.Znode) bool { return x.Path == path }) {
		return
	}
	if x, is := z.Get(path); is || x != (api.Znode{}) {
		t.Errorf("%s: Get(%q) is %s, %v", what, path, short(x), is)
	}
	if l, is := z.Kids(path); is || len(l) != 0 {
		t.Errorf("%s: Kids(%q) is %s, %v", what, path, short(l), is)
	}
}

func TestExamples(t *testing.T) {
	z := ztree.New()
	told(t, z, 1, 0, []string{"/a"}, made("/a"), create("/a"))
	n := api.Change{Kind: api.Create, Path: "/a/n-", Ephemeral: true, Sequence: true}
	told(t, z, 2, 5, []string{"/a/n-0000000000"}, []api.Event{event(api.Created, "/a/n-0000000000"), event(api.Children, "/a")}, n)
	refused(t, z, 3, 0, api.ErrTreeChildren, remove("/a", -1))
	ended(t, z, 4, 5, event(api.Deleted, "/a/n-0000000000"), event(api.Children, "/a"))
	if l, is := z.Kids("/a"); !is || len(l) != 0 {
		t.Errorf("P8.3: Kids(/a) is %q, %v", l, is)
	}
}

// Two of the whole document: numbers, and a session's end.
func TestExamplesOfTheWhole(t *testing.T) {
	z := tree(t, create("/a"))
	told(t, z, 2, 0, []string{"/a/n-0000000000"}, made("/a/n-0000000000"), sequence("/a/n-"))
	told(t, z, 3, 0, []string{"/a/n-0000000001"}, made("/a/n-0000000001"), sequence("/a/n-"))
	do(t, z, 4, 7, ephemeral("/a/x"))
	ended(t, z, 5, 7, gone("/a/x")...)
	ended(t, z, 6, 7)
	missing(t, "P8.2", z, "/a/x")
}

func TestNew(t *testing.T) {
	holds(t, "P8.1: New", tree(t), api.Znode{Path: "/"})
	a, b := tree(t), tree(t)
	do(t, a, 1, 0, create("/a"))
	holds(t, "P8.1: a new tree beside another one", b, api.Znode{Path: "/"})
}

func TestBoundsOfDo(t *testing.T) {
	for _, n := range without() {
		z := tree(t, create("/a"))
		for _, l := range [][]api.Change{nil, {create("/b")}, {check("/a", 0)}, {create("no path")}, {remove("/none", 0)}, {{}}} {
			refused(t, z, n, 0, api.ErrArg, l...)
			refused(t, z, 1, n, api.ErrArg, l...)
			refused(t, z, n, n, api.ErrArg, l...)
		}
	}
	for _, zxid := range within() {
		for _, session := range within() {
			z := tree(t)
			told(t, z, zxid, session, []string{"/e"}, made("/e"), ephemeral("/e"))
			holds(t, "P8.1: Create at each bound", z,
				api.Znode{Path: "/", Next: 1, Stat: api.Stat{Children: zxid, Kids: 1}},
				api.Znode{Path: "/e", Stat: api.Stat{Created: zxid, Changed: zxid, Children: zxid, Owner: session}})
		}
	}
}

func TestNoChange(t *testing.T) {
	z := tree(t, create("/a"))
	was := picture(z)
	told(t, z, 9, 5, nil, nil)
	if p, v, e := z.Do(9, 5, []api.Change{}); e != api.OK || len(p) != 0 || len(v) != 0 {
		t.Errorf("P8.1: Do of no change is %q, %v, %d", p, v, e)
	}
	if is := picture(z); is != was {
		t.Errorf("P8.1: behind Do of no change: %s, not %s", is, was)
	}
}

func TestKinds(t *testing.T) {
	z := tree(t, create("/a"))
	for _, kind := range []int{0, 5, 6, -1, -2, -4, 8, 257, 258, 1 << 32, 1<<32 + 1, math.MaxInt, math.MinInt} {
		for _, path := range []string{"/a", "/b", "/", "", "no path", "/none/b"} {
			refused(t, z, 2, 0, api.ErrArg, api.Change{Kind: kind, Path: path})
			refused(t, z, 2, 0, api.ErrArg, api.Change{Kind: kind, Path: path, Version: -1, Data: long(api.MaxText + 1)})
		}
	}
}

// noPaths are texts that are no path.
func noPaths() []string {
	return []string{"", "a", "a/b", "//", "/a/", "//a", "/a//b", "/.", "/..", "/a/.", "/a/../b", "/a b", "/a\x00", "/é", "/" + long(61), strings.Repeat("/d", 9)}
}

func TestNoPaths(t *testing.T) {
	z := tree(t, create("/a"), create("/a/b"))
	for _, path := range noPaths() {
		for kind := api.Create; kind <= api.Check; kind++ {
			for _, data := range []string{"", long(api.MaxText + 1)} {
				refused(t, z, 2, 5, api.ErrNameForm, api.Change{Kind: kind, Path: path, Data: data, Version: -1})
				refused(t, z, 2, 5, api.ErrNameForm, api.Change{Kind: kind, Path: path, Data: data, Version: 7, Sequence: true, Ephemeral: true})
			}
		}
		missing(t, "P8.3: no path", z, path)
	}
}

func TestCreate(t *testing.T) {
	z := tree(t)
	told(t, z, 3, 0, []string{"/a"}, made("/a"), createData("/a", "x"))
	holds(t, "P8.1: Create", z,
		api.Znode{Path: "/", Next: 1, Stat: api.Stat{Children: 3, Kids: 1}},
		api.Znode{Path: "/a", Data: "x", Stat: api.Stat{Created: 3, Changed: 3, Children: 3}})
	told(t, z, 4, 7, []string{"/a/b"}, made("/a/b"), createData("/a/b", "y\x00\xff"))
	told(t, z, 5, 7, []string{"/a/e"}, made("/a/e"), ephemeral("/a/e"))
	holds(t, "P8.1: Create below", z,
		api.Znode{Path: "/", Next: 1, Stat: api.Stat{Children: 3, Kids: 1}},
		api.Znode{Path: "/a", Data: "x", Next: 2, Stat: api.Stat{Created: 3, Changed: 3, Children: 5, Kids: 2}},
		api.Znode{Path: "/a/b", Data: "y\x00\xff", Stat: api.Stat{Created: 4, Changed: 4, Children: 4}},
		api.Znode{Path: "/a/e", Stat: api.Stat{Created: 5, Changed: 5, Children: 5, Owner: 7}})
}

// Only of a Create that is Ephemeral, in a session, is there an Owner.
func TestOwners(t *testing.T) {
	z := tree(t)
	do(t, z, 1, 0, ephemeral("/none"))
	do(t, z, 2, 5, create("/stays"))
	do(t, z, 3, 5, ephemeral("/goes"))
	for path, owner := range map[string]int{"/none": 0, "/stays": 0, "/goes": 5} {
		if x := get(t, z, path); x.Stat.Owner != owner {
			t.Errorf("P8.1: the Owner of %s is %d, not %d", path, x.Stat.Owner, owner)
		}
	}
	do(t, z, 4, 5, create("/none/x"), create("/stays/x"))
	refused(t, z, 5, 5, api.ErrTreeOwned, create("/goes/x"))
	ended(t, z, 6, 0)
	ended(t, z, 7, 5, gone("/goes")...)
}

// Version says nothing of a Create; Ephemeral and Sequence say nothing of another kind, nor Data of Delete and Check.
func TestWhatAKindDoesNotAskFor(t *testing.T) {
	z := tree(t, create("/a"))
	c := create("/b")
	for k, version := range []int{-1, -2, 1, top, math.MinInt} {
		c.Path, c.Version = fmt.Sprintf("/b%d", k), version
		told(t, z, 2, 0, []string{c.Path}, made(c.Path), c)
	}
	all := api.Change{Kind: api.SetTo, Path: "/a", Data: "y", Version: -1, Ephemeral: true, Sequence: true}
	told(t, z, 3, 5, []string{"/a"}, []api.Event{event(api.Changed, "/a")}, all)
	if x := get(t, z, "/a"); x.Stat.Owner != 0 || x.Data != "y" {
		t.Errorf("P8.1: SetTo, Ephemeral: %+v", x)
	}
	all.Kind, all.Data = api.Check, long(api.MaxText+1)
	told(t, z, 4, 5, []string{"/a"}, nil, all)
	if x := get(t, z, "/a"); x.Data != "y" {
		t.Errorf("P8.1: Check, with Data: %+v", x)
	}
	all.Kind = api.Delete
	told(t, z, 5, 5, []string{"/a"}, gone("/a"), all)
}

func TestLengthsOfData(t *testing.T) {
	for _, n := range []int{0, 1, api.MaxText - 1, api.MaxText} {
		z := tree(t)
		do(t, z, 2, 0, createData("/a", long(n)), create("/b"), set("/b", long(n), -1), set("/", long(n), -1))
		for _, path := range []string{"/a", "/b", "/"} {
			if x := get(t, z, path); x.Data != long(n) {
				t.Errorf("P8.1: Data of %d bytes is told as %d", n, len(x.Data))
			}
		}
	}
	z := tree(t, create("/a"))
	for _, n := range []int{api.MaxText + 1, api.MaxText + 2, 2 * api.MaxText, 4096, 1 << 16, 1<<16 + 1} {
		refused(t, z, 2, 0, api.ErrTreeLong, createData("/b", long(n)))
		refused(t, z, 2, 0, api.ErrTreeLong, set("/a", long(n), -1))
	}
	refused(t, z, 2, 0, api.ErrTreeLong, createData("/b", strings.Repeat("é", api.MaxText/2)+"x")) // bytes are counted, not runes
	do(t, z, 2, 0, createData("/b", strings.Repeat("é", api.MaxText/2)))
}

// What is not there, is there already, or is an ephemeral znode's.
func TestPlacesOfCreate(t *testing.T) {
	z := tree(t, create("/a"), create("/a/b"), ephemeral("/a/e"))
	refused(t, z, 2, 0, api.ErrTreeExists, create("/"))
	refused(t, z, 2, 0, api.ErrTreeExists, ephemeral("/"))
	refused(t, z, 2, 0, api.ErrTreeExists, create("/a"))
	refused(t, z, 2, 0, api.ErrTreeExists, create("/a/b"))
	refused(t, z, 2, 0, api.ErrTreeExists, create("/a/e"))
	refused(t, z, 2, 0, api.ErrTreeExists, ephemeral("/a/e"))
	refused(t, z, 2, 0, api.ErrTreeParent, create("/b/c"))
	refused(t, z, 2, 0, api.ErrTreeParent, create("/a/c/d"))
	refused(t, z, 2, 0, api.ErrTreeParent, create("/a/b/c/d"))
	refused(t, z, 2, 0, api.ErrTreeParent, create("/a/e/c/d"))
	refused(t, z, 2, 0, api.ErrTreeParent, sequence("/b/n-"))
	refused(t, z, 2, 0, api.ErrTreeOwned, create("/a/e/c"))
	refused(t, z, 2, 5, api.ErrTreeOwned, ephemeral("/a/e/c"))
	refused(t, z, 2, 5, api.ErrTreeOwned, sequence("/a/e/n-"))
	do(t, z, 2, 0, create("/b"), create("/b/c"), create("/ab"))
}

func TestDepths(t *testing.T) {
	z := tree(t)
	for n := 1; n <= api.MaxDepth; n++ {
		path := strings.Repeat("/d", n)
		told(t, z, n, 0, []string{path}, made(path), create(path))
	}
	refused(t, z, 9, 0, api.ErrNameForm, create(strings.Repeat("/d", api.MaxDepth+1)))
	do(t, z, 9, 0, sequence(strings.Repeat("/d", api.MaxDepth)))
	if l := z.All(); len(l) != api.MaxDepth+2 {
		t.Errorf("P8.3: All is %s", short(l))
	}
}

func TestNumbers(t *testing.T) {
	z := tree(t, create("/a"))
	for n := range 25 {
		path := fmt.Sprintf("/a/n-%010d", n)
		told(t, z, 2+n, 0, []string{path}, made(path), sequence("/a/n-"))
	}
	for n, path := range []string{"/x0000000001", "/-0000000002", "/x0000000003", "/00000000000000000004"} {
		told(t, z, 30+n, 0, []string{path}, made(path), sequence(path[:len(path)-10]))
	}
	do(t, z, 40, 0, create("/a/n-"))
	told(t, z, 41, 0, []string{"/a/n-0000000026"}, made("/a/n-0000000026"), sequence("/a/n-")) // that there is a znode of its Path is no matter
	told(t, z, 42, 0, []string{"/a/n-0000000000"}, gone("/a/n-0000000000"), remove("/a/n-0000000000", -1))
	told(t, z, 43, 0, []string{"/a/n-0000000027"}, made("/a/n-0000000027"), sequence("/a/n-"))
	told(t, z, 44, 0, []string{"/a/n-0000000000"}, made("/a/n-0000000000"), create("/a/n-0000000000"))
	told(t, z, 45, 0, []string{"/a/n-/n-0000000000"}, made("/a/n-/n-0000000000"), sequence("/a/n-/n-"))
}

// Next tells of all children that were ever made: it goes on where none is left.
func TestNumbersBehindDeletes(t *testing.T) {
	z := tree(t, create("/a"))
	for n := range 300 {
		path := fmt.Sprintf("/a/n-%010d", n)
		told(t, z, 2, 0, []string{path, path}, join(made(path), gone(path)), sequence("/a/n-"), remove(path, 0))
	}
	if x := get(t, z, "/a"); x.Next != 300 || x.Stat.Kids != 600 {
		t.Errorf("P8.1: behind 300 children that were made and deleted: %+v", x)
	}
	do(t, z, 3, 0, remove("/a", 0), create("/a"))
	told(t, z, 4, 0, []string{"/a/n-0000000000"}, made("/a/n-0000000000"), sequence("/a/n-")) // another znode, of which none was made
}

func TestNumberThatIsThere(t *testing.T) {
	z := tree(t, create("/a"), create("/a/n-0000000001"))
	refused(t, z, 2, 0, api.ErrTreeExists, sequence("/a/n-"))
	refused(t, z, 3, 0, api.ErrTreeExists, sequence("/a/n-"))
	told(t, z, 4, 0, []string{"/a/m-0000000001"}, made("/a/m-0000000001"), sequence("/a/m-"))
	told(t, z, 5, 0, []string{"/a/n-0000000002"}, made("/a/n-0000000002"), sequence("/a/n-"))
}

func TestNumbersThatAreNone(t *testing.T) {
	z := tree(t, create("/a"))
	refused(t, z, 2, 0, api.ErrTreeExists, sequence("/"))
	for _, n := range []int{51, 52, 59, 60} {
		refused(t, z, 2, 0, api.ErrNameForm, sequence("/a/"+long(n)))
		refused(t, z, 2, 0, api.ErrNameForm, sequence("/"+long(n)))
	}
	room := "/a/" + long(50)
	told(t, z, 2, 0, []string{room + "0000000000"}, made(room+"0000000000"), sequence(room))
	for _, c := range []struct {
		next int
		path string
	}{{0, "/n0000000000"}, {1, "/n0000000001"}, {math.MaxUint32, "/n4294967295"}, {greatest - 1, "/n9999999998"}, {greatest, "/n9999999999"}, {greatest + 1, ""}, {greatest + 2, ""}, {10 * greatest, ""}, {top - 1, ""}, {top, ""}} {
		z := load(t, []api.Znode{{Path: "/", Next: c.next}})
		if c.path != "" {
			told(t, z, 2, 0, []string{c.path}, made(c.path), sequence("/n"))
			continue
		}
		refused(t, z, 2, 0, api.ErrNameForm, sequence("/n"))
		do(t, z, 2, 0, create("/n"))
	}
	last := load(t, []api.Znode{{Path: "/", Next: greatest}})
	do(t, last, 2, 0, sequence("/n"))
	refused(t, last, 2, 0, api.ErrNameForm, sequence("/n"))
}

func TestFull(t *testing.T) {
	z := full(t)
	if n := len(z.All()); n != api.MaxNodes {
		t.Fatalf("P8.1: there are %d znodes", n)
	}
	refused(t, z, 2, 0, api.ErrTreeFull, create("/b"))
	refused(t, z, 2, 0, api.ErrTreeFull, create("/a/b"))
	refused(t, z, 2, 5, api.ErrTreeFull, ephemeral("/b"))
	refused(t, z, 2, 0, api.ErrTreeFull, sequence("/b"))
	refused(t, z, 2, 0, api.ErrTreeFull, remove("/n000", 0), create("/b"), create("/c"))
	do(t, z, 2, 0, set("/a", "x", 0), check("/a", 1))
	told(t, z, 3, 0, []string{"/n000", "/b"}, join(gone("/n000"), made("/b")), remove("/n000", 0), create("/b"))
	refused(t, z, 4, 0, api.ErrTreeFull, create("/c"))
	ended(t, z, 5, 5, gone("/e")...)
	do(t, z, 6, 0, create("/c"))
	refused(t, z, 7, 0, api.ErrTreeFull, create("/d"))
}

// Where several errors of a Create apply, the first one is told.
func TestErrorsOfCreateInOrder(t *testing.T) {
	z := full(t)
	much, noRoom := long(api.MaxText+1), long(51)
	for _, c := range []struct {
		path, data string
		want       api.Errno
	}{
		{"no path", much, api.ErrNameForm},
		{"/", much, api.ErrTreeLong},
		{"/none/b", much, api.ErrTreeLong},
		{"/e/b", much, api.ErrTreeLong},
		{"/a/" + noRoom, much, api.ErrTreeLong},
		{"/a", much, api.ErrTreeLong},
		{"/b", much, api.ErrTreeLong},
		{"/", "", api.ErrTreeExists},
		{"/none/b", "", api.ErrTreeParent},
		{"/none/" + noRoom, "", api.ErrTreeParent},
		{"/e/b", "", api.ErrTreeOwned},
		{"/e/" + noRoom, "", api.ErrTreeOwned},
		{"/a/" + noRoom, "", api.ErrNameForm},
	} {
		refused(t, z, 2, 5, c.want, api.Change{Kind: api.Create, Path: c.path, Data: c.data, Sequence: true})
		refused(t, z, 2, 5, c.want, api.Change{Kind: api.Create, Path: c.path, Data: c.data, Sequence: true, Ephemeral: true})
		if !strings.HasSuffix(c.path, noRoom) {
			refused(t, z, 2, 5, c.want, createData(c.path, c.data))
		}
	}
	refused(t, z, 2, 0, api.ErrTreeExists, create("/a"))
	refused(t, z, 2, 0, api.ErrTreeFull, create("/a/"+noRoom))
	named := load(t, []api.Znode{{Path: "/"}, {Path: "/" + noRoom}})
	refused(t, named, 2, 0, api.ErrNameForm, sequence("/"+noRoom)) // its number is what it can't have
}

// A number that is there is told ahead of a tree that is full.
func TestNumberThatIsThereOfAFullTree(t *testing.T) {
	l := []api.Znode{{Path: "/", Next: 7}}
	for k := range api.MaxNodes - 1 {
		l = append(l, api.Znode{Path: fmt.Sprintf("/n%010d", k)})
	}
	z := load(t, l)
	refused(t, z, 1, 0, api.ErrTreeExists, sequence("/n"))
	refused(t, z, 1, 0, api.ErrTreeFull, sequence("/m"))
}

func TestDelete(t *testing.T) {
	z := tree(t, create("/a"), create("/a/b"), create("/c"))
	told(t, z, 7, 0, []string{"/a/b"}, gone("/a/b"), remove("/a/b", 0))
	holds(t, "P8.1: Delete", z,
		api.Znode{Path: "/", Next: 2, Stat: api.Stat{Children: 1, Kids: 2}},
		api.Znode{Path: "/a", Next: 1, Stat: api.Stat{Created: 1, Changed: 1, Children: 7, Kids: 2}},
		api.Znode{Path: "/c", Stat: api.Stat{Created: 1, Changed: 1, Children: 1}})
	told(t, z, 8, 0, []string{"/a"}, gone("/a"), remove("/a", -1))
	holds(t, "P8.1: Delete of what had a child", z,
		api.Znode{Path: "/", Next: 2, Stat: api.Stat{Children: 8, Kids: 3}},
		api.Znode{Path: "/c", Stat: api.Stat{Created: 1, Changed: 1, Children: 1}})
	refused(t, z, 9, 0, api.ErrTreeNone, remove("/a", -1))
	do(t, z, 9, 0, remove("/c", 0))
	holds(t, "P8.1: Delete of all", z, api.Znode{Path: "/", Next: 2, Stat: api.Stat{Children: 9, Kids: 4}})
}

// Any session may change what is another one's.
func TestChangesOfAnothersZnode(t *testing.T) {
	z := tree(t, ephemeral("/e"))
	do(t, z, 2, 6, set("/e", "x", 0))
	if x := get(t, z, "/e"); x.Stat.Owner != 5 {
		t.Errorf("P8.1: behind a SetTo in another session: %+v", x)
	}
	told(t, z, 3, 6, []string{"/e"}, gone("/e"), remove("/e", 1))
	ended(t, z, 4, 5)
}

func TestErrorsOfDelete(t *testing.T) {
	z := tree(t, create("/a"), create("/a/b"), set("/a", "x", 0), create("/ab"), create("/ab/c"))
	for _, version := range []int{0, -1, 1, -2, top, math.MinInt} {
		refused(t, z, 2, 0, api.ErrTreeNone, remove("/b", version))
		refused(t, z, 2, 0, api.ErrTreeNone, remove("/a/b/c", version))
		refused(t, z, 2, 0, api.ErrTreeNone, remove("/none/b", version))
		refused(t, z, 2, 0, api.ErrArg, remove("/", version))
		refused(t, tree(t), 2, 0, api.ErrArg, remove("/", version))
	}
	for _, version := range []int{0, 2, -2, -3, top, math.MinInt, math.MaxInt} {
		refused(t, z, 2, 0, api.ErrTreeVersion, remove("/a", version))
	}
	for _, version := range []int{1, -1} {
		refused(t, z, 2, 0, api.ErrTreeChildren, remove("/a", version))
	}
	do(t, z, 3, 0, remove("/a/b", 0), remove("/a", 1)) // of which only others' paths begin with its own
	refused(t, z, 4, 0, api.ErrTreeChildren, remove("/ab", 0))
}

// A child hinders, whatever it is named, and whoever owns it.
func TestDeleteOfWhatHasChildren(t *testing.T) {
	for _, name := range []string{"b", "-", "...", "_", "0", "a", long(60)} {
		z := tree(t, create("/a"), create("/a-"), create("/a0"), create("/a.x"), create("/a_"), ephemeral("/a/"+name))
		refused(t, z, 2, 0, api.ErrTreeChildren, remove("/a", -1))
		do(t, z, 3, 0, remove("/a-", 0), remove("/a.x", 0), remove("/a0", 0), remove("/a_", 0))
		ended(t, z, 4, 5, gone("/a/"+name)...)
		do(t, z, 5, 0, remove("/a", 0))
	}
}

func TestSetTo(t *testing.T) {
	z := tree(t, createData("/a", "x"), create("/a/b"), ephemeral("/e"))
	root := api.Znode{Path: "/", Next: 2, Stat: api.Stat{Children: 1, Kids: 2}}
	a := api.Znode{Path: "/a", Next: 1, Stat: api.Stat{Created: 1, Children: 1, Kids: 1}}
	b := api.Znode{Path: "/a/b", Stat: api.Stat{Created: 1, Changed: 1, Children: 1}}
	e := api.Znode{Path: "/e", Stat: api.Stat{Created: 1, Changed: 1, Children: 1, Owner: 5}}
	for k, data := range []string{"y", "y", "", "z\x00"} { // also what it had
		told(t, z, 5+k, 0, []string{"/a"}, []api.Event{event(api.Changed, "/a")}, set("/a", data, k))
		a.Data, a.Stat.Changed, a.Stat.Version = data, 5+k, k+1
		holds(t, "P8.1: SetTo", z, root, a, b, e)
	}
	told(t, z, 20, 9, []string{"/e"}, []api.Event{event(api.Changed, "/e")}, set("/e", "w", -1))
	e.Data, e.Stat.Changed, e.Stat.Version = "w", 20, 1
	told(t, z, 21, 9, []string{"/"}, []api.Event{event(api.Changed, "/")}, set("/", "r", 0))
	root.Data, root.Stat.Changed, root.Stat.Version = "r", 21, 1
	holds(t, "P8.1: SetTo of an ephemeral znode and the root", z, root, a, b, e)
}

func TestCheck(t *testing.T) {
	z := tree(t, createData("/a", "x"), set("/a", "y", 0), ephemeral("/e"))
	was := picture(z)
	for _, c := range []api.Change{check("/a", 1), check("/a", -1), check("/e", 0), check("/e", -1), check("/", 0), check("/", -1)} {
		told(t, z, 2, 0, []string{c.Path}, nil, c)
		if is := picture(z); is != was {
			t.Errorf("P8.1: behind %+v: %s, not %s", c, is, was)
		}
	}
	told(t, z, 3, 0, []string{"/a", "/a", "/"}, nil, check("/a", 1), check("/a", 1), check("/", 0))
}

func TestErrorsOfSetToAndCheck(t *testing.T) {
	z := tree(t, create("/a"), set("/a", "x", 0), set("/a", "y", 1))
	for _, version := range []int{0, -1, 1, 2, -2} {
		for _, path := range []string{"/b", "/a/b", "/none/b"} {
			refused(t, z, 2, 0, api.ErrTreeNone, set(path, "z", version))
			refused(t, z, 2, 0, api.ErrTreeNone, check(path, version))
			refused(t, z, 2, 0, api.ErrTreeLong, set(path, long(api.MaxText+1), version))
		}
		refused(t, z, 2, 0, api.ErrTreeLong, set("/a", long(api.MaxText+1), version))
	}
	for _, version := range []int{0, 1, 3, -2, -3, top, 1<<32 + 2, math.MinInt, math.MaxInt} {
		refused(t, z, 2, 0, api.ErrTreeVersion, set("/a", "z", version))
		refused(t, z, 2, 0, api.ErrTreeVersion, check("/a", version))
	}
	refused(t, z, 2, 0, api.ErrTreeVersion, set("/", "z", 1))
	refused(t, z, 2, 0, api.ErrTreeVersion, check("/", 1))
	do(t, z, 2, 0, check("/a", 2), set("/a", "z", 2), check("/a", 3))
}

// A znode that is made again knows nothing of the one that was there.
func TestMadeAgain(t *testing.T) {
	z := tree(t, createData("/a", "x"), set("/a", "y", 0), create("/a/b"), remove("/a/b", 0), remove("/a", 1))
	do(t, z, 6, 7, ephemeral("/a"))
	root := api.Znode{Path: "/", Next: 2, Stat: api.Stat{Children: 6, Kids: 3}}
	holds(t, "P8.1: Create of what was deleted", z, root, api.Znode{Path: "/a", Stat: api.Stat{Created: 6, Changed: 6, Children: 6, Owner: 7}})
	do(t, z, 8, 0, remove("/a", 0), create("/a"))
	root.Next, root.Stat = 3, api.Stat{Children: 8, Kids: 5}
	holds(t, "P8.1: Create of what was ephemeral", z, root, api.Znode{Path: "/a", Stat: api.Stat{Created: 8, Changed: 8, Children: 8}})
}

// A zxid may be any, also below one that was given before.
func TestZxidsMayFall(t *testing.T) {
	z := tree(t)
	do(t, z, 9, 0, create("/a"))
	do(t, z, 4, 0, create("/a/b"), set("/a", "x", 0))
	do(t, z, 0, 0, set("/a/b", "y", 0), create("/c"))
	holds(t, "P8.1: zxids that fall", z,
		api.Znode{Path: "/", Next: 2, Stat: api.Stat{Children: 0, Kids: 2}},
		api.Znode{Path: "/a", Data: "x", Next: 1, Stat: api.Stat{Created: 9, Changed: 4, Children: 4, Version: 1, Kids: 1}},
		api.Znode{Path: "/a/b", Data: "y", Stat: api.Stat{Created: 4, Changed: 0, Children: 4, Version: 1}},
		api.Znode{Path: "/c"})
}

func TestSeveralChanges(t *testing.T) {
	z := tree(t)
	told(t, z, 2, 7,
		[]string{"/a", "/a/b", "/a/n-0000000001", "/a/b", "/a/b", "/a/b", "/a", "/a/n-0000000002"},
		join(made("/a"), made("/a/b"), made("/a/n-0000000001"), []api.Event{event(api.Changed, "/a/b")}, gone("/a/b"), []api.Event{event(api.Changed, "/a")}, made("/a/n-0000000002")),
		create("/a"), create("/a/b"), sequence("/a/n-"), set("/a/b", "x", 0), check("/a/b", 1), remove("/a/b", 1), set("/a", "y", 0), api.Change{Kind: api.Create, Path: "/a/n-", Sequence: true, Ephemeral: true})
	holds(t, "P8.1: changes that build on one another", z,
		api.Znode{Path: "/", Next: 1, Stat: api.Stat{Children: 2, Kids: 1}},
		api.Znode{Path: "/a", Data: "y", Next: 3, Stat: api.Stat{Created: 2, Changed: 2, Children: 2, Version: 1, Kids: 4}},
		api.Znode{Path: "/a/n-0000000001", Stat: api.Stat{Created: 2, Changed: 2, Children: 2}},
		api.Znode{Path: "/a/n-0000000002", Stat: api.Stat{Created: 2, Changed: 2, Children: 2, Owner: 7}})
	told(t, z, 3, 0, []string{"/x", "/x", "/x"}, join(made("/x"), gone("/x"), made("/x")), create("/x"), remove("/x", 0), create("/x"))
	refused(t, z, 4, 0, api.ErrTreeExists, create("/y"), create("/y"))
	refused(t, z, 4, 0, api.ErrTreeNone, remove("/x", 0), set("/x", "", 0))
	refused(t, z, 4, 7, api.ErrTreeOwned, ephemeral("/y"), create("/y/z"))
	refused(t, z, 4, 0, api.ErrTreeParent, create("/y/z"), create("/y"))
	refused(t, z, 4, 0, api.ErrTreeVersion, set("/x", "", 0), set("/x", "", 0))
	refused(t, z, 4, 0, api.ErrTreeChildren, create("/x/y"), remove("/x", 0))
}

// The error is that of the first change with which something is amiss, wherever it stands; nothing of the others is done.
func TestRefusedAtEachPlace(t *testing.T) {
	good := []api.Change{create("/b"), set("/a", "x", 0), sequence("/a/n-"), remove("/c", 0), create("/b/c"), check("/a", 1), ephemeral("/a/e"), set("/", "r", 0)}
	for k := range len(good) + 1 {
		for _, c := range []struct {
			bad  api.Change
			want api.Errno
		}{{api.Change{}, api.ErrArg}, {create("x"), api.ErrNameForm}, {create("/a"), api.ErrTreeExists}, {create("/none/x"), api.ErrTreeParent}, {set("/a", long(api.MaxText+1), -1), api.ErrTreeLong}, {check("/a", 7), api.ErrTreeVersion}, {remove("/d", 0), api.ErrTreeChildren}, {remove("/none", 0), api.ErrTreeNone}, {create("/o/x"), api.ErrTreeOwned}} {
			z := tree(t, create("/a"), create("/c"), create("/d"), create("/d/e"), ephemeral("/o"))
			refused(t, z, 2, 6, c.want, slices.Insert(slices.Clone(good), k, c.bad)...)
			refused(t, z, 2, 6, c.want, join(good[:k], []api.Change{c.bad, {Kind: 9}, create("/none/y"), create("y")}, good[k:])...)
			do(t, z, 3, 6, good...) // as if nothing had been asked
		}
	}
}

// A number that would be greater than the most stays.
func TestMostOfNumbers(t *testing.T) {
	for _, n := range []int{top - 2, top - 1, top} {
		l := []api.Znode{{Path: "/"}, {Path: "/a", Next: n, Stat: api.Stat{Version: n, Kids: n}}}
		z := load(t, l)
		up := func(x *int) { *x = min(*x+1, top) }
		for k := range 4 {
			path := fmt.Sprintf("/a/%d", k)
			told(t, z, top, 5, []string{path, "/a", path}, join(made(path), []api.Event{event(api.Changed, "/a")}, gone(path)), ephemeral(path), set("/a", "", l[1].Stat.Version), remove(path, 0))
			up(&l[1].Next)
			up(&l[1].Stat.Kids)
			up(&l[1].Stat.Kids)
			up(&l[1].Stat.Version)
			l[1].Stat.Changed, l[1].Stat.Children = top, top
			holds(t, "P8.1: numbers at the most", z, l...)
			do(t, z, 3, 5, check("/a", l[1].Stat.Version), ephemeral(path))
			ended(t, z, top, 5, gone(path)...)
			up(&l[1].Next)
			up(&l[1].Stat.Kids)
			up(&l[1].Stat.Kids)
			holds(t, "P8.2: numbers at the most", z, l...)
		}
	}
}

// Each number is held for itself: one that is at the most does not hold the others.
func TestMostOfOneNumber(t *testing.T) {
	for k := range 3 {
		x := api.Znode{Path: "/a"}
		numbers := []*int{&x.Next, &x.Stat.Kids, &x.Stat.Version}
		*numbers[k] = top
		z := load(t, []api.Znode{{Path: "/"}, x})
		do(t, z, 0, 0, create("/a/b"), set("/a", "", x.Stat.Version))
		for _, n := range numbers {
			*n = min(*n+1, top)
		}
		if got := get(t, z, "/a"); got != x {
			t.Errorf("P8.1: %+v, not %+v", got, x)
		}
	}
}

func TestEnd(t *testing.T) {
	z := tree(t, create("/a"), create("/a-"), create("/b"), create("/b/c"))
	for _, path := range []string{"/z", "/b/c/x", "/a/x", "/a-/x", "/b/y", "/a/w", "/a.", "/a/xx", "/b0"} {
		do(t, z, 2, 7, ephemeral(path))
	}
	do(t, z, 3, 77, ephemeral("/a/v"), ephemeral("/b/z"))
	do(t, z, 4, 7, create("/a/stays"))
	want := []string{"/a-/x", "/a.", "/a/w", "/a/x", "/a/xx", "/b/c/x", "/b/y", "/b0", "/z"}
	if l := z.Owned(7); !slices.Equal(l, want) {
		t.Errorf("P8.3: Owned is %q, not %q", l, want)
	}
	var events []api.Event
	for _, path := range want {
		events = append(events, gone(path)...)
	}
	ended(t, z, 9, 7, events...)
	old := api.Stat{Created: 1, Changed: 1}
	stat := func(children, kids int) api.Stat {
		s := old
		s.Children, s.Kids = children, kids
		return s
	}
	holds(t, "P8.2: End", z,
		api.Znode{Path: "/", Next: 6, Stat: api.Stat{Children: 9, Kids: 9}},
		api.Znode{Path: "/a", Next: 5, Stat: stat(9, 8)},
		api.Znode{Path: "/a-", Next: 1, Stat: stat(9, 2)},
		api.Znode{Path: "/a/stays", Stat: api.Stat{Created: 4, Changed: 4, Children: 4}},
		api.Znode{Path: "/a/v", Stat: api.Stat{Created: 3, Changed: 3, Children: 3, Owner: 77}},
		api.Znode{Path: "/b", Next: 3, Stat: stat(9, 4)},
		api.Znode{Path: "/b/c", Next: 1, Stat: stat(9, 2)},
		api.Znode{Path: "/b/z", Stat: api.Stat{Created: 3, Changed: 3, Children: 3, Owner: 77}})
	ended(t, z, 10, 7)
	ended(t, z, 10, 77, join(gone("/a/v"), gone("/b/z"))...)
}

// Whatever Version its znodes have, and whoever else is there.
func TestEndOfManyVersions(t *testing.T) {
	z := tree(t)
	for k := range 5 {
		path := fmt.Sprintf("/e%d", k)
		do(t, z, 1, 7, ephemeral(path))
		for n := range k {
			do(t, z, 2, 8, set(path, "x", n))
		}
	}
	ended(t, z, 3, 7, join(gone("/e0"), gone("/e1"), gone("/e2"), gone("/e3"), gone("/e4"))...)
}

func TestEndOfNothing(t *testing.T) {
	z := tree(t, create("/a"), ephemeral("/a/e"), ephemeral("/f"))
	do(t, z, 2, 0, ephemeral("/a/none"))
	was := picture(z)
	for _, session := range append(without(), 0, 1, 4, 6, 55, top) {
		ended(t, z, 3, session)
		if l := z.Owned(session); len(l) != 0 {
			t.Errorf("P8.3: Owned(%d) is %q", session, l)
		}
	}
	for _, zxid := range without() {
		ended(t, z, zxid, 5)
		ended(t, z, zxid, 0)
	}
	if is := picture(z); is != was {
		t.Errorf("P8.2: behind ends of nothing: %s, not %s", is, was)
	}
	for _, n := range within()[1:] {
		z := tree(t)
		do(t, z, 1, n, ephemeral("/e"))
		ended(t, z, n, n, gone("/e")...)
		holds(t, "P8.2: End at each bound", z, api.Znode{Path: "/", Next: 1, Stat: api.Stat{Children: n, Kids: 2}})
	}
	z = tree(t, ephemeral("/e"))
	ended(t, z, 0, 5, gone("/e")...)
	holds(t, "P8.2: End with zxid 0", z, api.Znode{Path: "/", Next: 1, Stat: api.Stat{Kids: 2}})
}

func TestEndOfAFullTree(t *testing.T) {
	z := tree(t)
	for k := range api.MaxNodes - 1 {
		do(t, z, 1, 7, ephemeral(fmt.Sprintf("/e%03d", k)))
	}
	if l := z.End(2, 7); len(l) != 2*(api.MaxNodes-1) {
		t.Errorf("P8.2: %d events", len(l))
	}
	holds(t, "P8.2: End of all", z, api.Znode{Path: "/", Next: 199, Stat: api.Stat{Children: 2, Kids: 398}})
}

func TestKids(t *testing.T) {
	names := []string{"aa", "a", "b", "a-", "a.", "a0", "aA", "A", "_", "-", "...", "0", "a-b", "ab", "Z", "9"}
	z := tree(t, create("/a"), create("/ab"), create("/a-"), create("/ab/x"), create("/a-/y"))
	for _, name := range names {
		do(t, z, 2, 0, create("/a/"+name), create("/a/"+name+"/below"))
	}
	rising := []string{"-", "...", "0", "9", "A", "Z", "_", "a", "a-", "a-b", "a.", "a0", "aA", "aa", "ab", "b"}
	if l, is := z.Kids("/a"); !is || !slices.Equal(l, rising) {
		t.Errorf("P8.3: Kids(/a) is %q, %v", l, is)
	}
	if l, is := z.Kids("/"); !is || !slices.Equal(l, []string{"a", "a-", "ab"}) {
		t.Errorf("P8.3: Kids(/) is %q, %v", l, is)
	}
	if l, is := z.Kids("/a/a-"); !is || !slices.Equal(l, []string{"below"}) {
		t.Errorf("P8.3: Kids(/a/a-) is %q, %v", l, is)
	}
	if l, is := z.Kids("/a/a-/below"); !is || len(l) != 0 {
		t.Errorf("P8.3: Kids of what has none is %q, %v", l, is)
	}
	for _, path := range append(noPaths(), "/c", "/a/c", "/aa", "/a/below", "/below") {
		missing(t, "P8.3", z, path)
	}
}

// A dash and a point stand below a slash, digits and letters above it.
func TestAllByRisingPaths(t *testing.T) {
	z := tree(t)
	for _, path := range []string{"/a", "/a/b", "/a0", "/a-", "/a-/b", "/a.b", "/A", "/a/-", "/a/b/c", "/ab", "/_", "/a-/b/c"} {
		do(t, z, 1, 0, create(path))
	}
	var paths []string
	for _, x := range z.All() {
		paths = append(paths, x.Path)
	}
	if want := []string{"/", "/A", "/_", "/a", "/a-", "/a-/b", "/a-/b/c", "/a.b", "/a/-", "/a/b", "/a/b/c", "/a0", "/ab"}; !slices.Equal(paths, want) {
		t.Errorf("P8.3: All has the paths %q, not %q", paths, want)
	}
}

func TestClone(t *testing.T) {
	start := func() *ztree.Tree { return tree(t, createData("/a", "x"), ephemeral("/a/e"), create("/b")) }
	changes := map[string]func(z *ztree.Tree){
		"Create": func(z *ztree.Tree) { do(t, z, 2, 0, create("/a/c")) },
		"Delete": func(z *ztree.Tree) { do(t, z, 2, 0, remove("/b", 0)) },
		"SetTo":  func(z *ztree.Tree) { do(t, z, 2, 0, set("/a", "y", 0)) },
		"End":    func(z *ztree.Tree) { z.End(2, 5) },
		"number": func(z *ztree.Tree) { do(t, z, 2, 0, sequence("/a/n-")) },
	}
	want := picture(start())
	for _, what := range slices.Sorted(maps.Keys(changes)) {
		z := start()
		c := z.Clone()
		if is := picture(c); is != want {
			t.Fatalf("P8.3: a Clone: %s, not %s", is, want)
		}
		changes[what](c)
		if is := picture(z); is != want {
			t.Errorf("P8.3: %s of a Clone is seen: %s, not %s", what, is, want)
		}
		c = z.Clone()
		changes[what](z)
		if is := picture(c); is != want {
			t.Errorf("P8.3: %s is seen at a Clone: %s, not %s", what, is, want)
		}
		changes[what](c)
		if is, was := picture(c), picture(z); is != was {
			t.Errorf("P8.3: %s of a Clone: %s, not %s", what, is, was)
		}
	}
	c := start().Clone().Clone()
	if is := picture(c); is != want {
		t.Errorf("P8.3: a Clone's Clone: %s, not %s", is, want)
	}
	holds(t, "P8.3: a new tree's Clone", ztree.New().Clone(), api.Znode{Path: "/"})
}
