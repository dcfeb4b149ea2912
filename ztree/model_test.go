package ztree_test

import (
	"fmt"
	"slices"
	"strings"
	"testing"
	"unsafe"

	"harpsichord/api"
	"harpsichord/zname"
	"harpsichord/ztree"
)

// model is a tree by the chapter's words: its znodes, by rising paths.
type model []api.Znode

// at is where a path's znode stands; false, if there is none.
func (m model) at(path string) (int, bool) {
	return slices.BinarySearchFunc(m, path, func(x api.Znode, path string) int { return strings.Compare(x.Path, path) })
}

func (m model) hasKids(path string) bool {
	return slices.ContainsFunc(m, func(x api.Znode) bool { return parentOf(x.Path) == path })
}

func (m model) wrongVersion(c api.Change) api.Errno {
	k, is := m.at(c.Path)
	switch {
	case !is:
		return api.ErrTreeNone
	case c.Kind == api.Delete && c.Path == "/":
		return api.ErrArg
	case c.Version != -1 && c.Version != m[k].Stat.Version:
		return api.ErrTreeVersion
	}
	return api.OK
}

// amiss is the error of a change, and the path that it is about.
func (m model) amiss(c api.Change) (string, api.Errno) {
	switch {
	case !slices.Contains([]int{api.Create, api.Delete, api.SetTo, api.Check}, c.Kind):
		return "", api.ErrArg
	case !zname.Valid(c.Path):
		return "", api.ErrNameForm
	case (c.Kind == api.Create || c.Kind == api.SetTo) && len(c.Data) > api.MaxText:
		return "", api.ErrTreeLong
	case c.Kind == api.Create:
		return m.place(c)
	}
	if e := m.wrongVersion(c); e != api.OK {
		return "", e
	}
	if c.Kind == api.Delete && m.hasKids(c.Path) {
		return "", api.ErrTreeChildren
	}
	return c.Path, api.OK
}

// place is the path that a Create makes, or its error.
func (m model) place(c api.Change) (string, api.Errno) {
	if c.Path == "/" {
		return "", api.ErrTreeExists
	}
	k, is := m.at(parentOf(c.Path))
	if !is {
		return "", api.ErrTreeParent
	}
	if m[k].Stat.Owner != 0 {
		return "", api.ErrTreeOwned
	}
	path := c.Path
	if c.Sequence {
		path = fmt.Sprintf("%s%010d", path, m[k].Next)
		if m[k].Next > greatest || len(nameOf(path)) > api.MaxName {
			return "", api.ErrNameForm
		}
	}
	if _, is := m.at(path); is {
		return "", api.ErrTreeExists
	}
	if len(m) >= api.MaxNodes {
		return "", api.ErrTreeFull
	}
	return path, api.OK
}

// change is the model behind a change with which nothing is amiss, and the events.
func (m model) change(zxid, session int, path string, c api.Change) (model, []api.Event) {
	k, _ := m.at(path)
	switch c.Kind {
	case api.Check:
		return m, nil
	case api.SetTo:
		m[k].Data, m[k].Stat.Changed, m[k].Stat.Version = c.Data, zxid, min(m[k].Stat.Version+1, top)
		return m, []api.Event{event(api.Changed, path)}
	}
	up, _ := m.at(parentOf(path))
	m[up].Stat.Children, m[up].Stat.Kids = zxid, min(m[up].Stat.Kids+1, top)
	if c.Kind == api.Delete {
		return slices.Delete(m, k, k+1), gone(path)
	}
	m[up].Next = min(m[up].Next+1, top)
	x := api.Znode{Path: path, Data: c.Data, Stat: api.Stat{Created: zxid, Changed: zxid, Children: zxid}}
	if c.Ephemeral {
		x.Stat.Owner = session
	}
	return slices.Insert(m, k, x), made(path)
}

// do is the model behind a list of changes, and what is told.
func (m model) do(zxid, session int, l []api.Change) (model, []string, []api.Event, api.Errno) {
	if zxid < 0 || zxid > top || session < 0 || session > top {
		return m, nil, nil, api.ErrArg
	}
	next := slices.Clone(m)
	var paths []string
	var events []api.Event
	for _, c := range l {
		path, e := next.amiss(c)
		if e != api.OK {
			return m, nil, nil, e
		}
		var more []api.Event
		next, more = next.change(zxid, session, path, c)
		paths, events = append(paths, path), append(events, more...)
	}
	return next, paths, events, api.OK
}

// end is the model behind a session's end, and the events.
func (m model) end(zxid, session int) (model, []api.Event) {
	if zxid < 0 || zxid > top || session <= 0 || session > top {
		return m, nil
	}
	next := slices.Clone(m)
	var events []api.Event
	for _, x := range m {
		if x.Stat.Owner == session {
			var more []api.Event
			next, more = next.change(zxid, session, x.Path, api.Change{Kind: api.Delete})
			events = append(events, more...)
		}
	}
	return next, events
}

// dice tells numbers below n, always the same ones for a seed.
func dice(seed uint64) func(n int) int {
	x := seed
	return func(n int) int {
		x = x*6364136223846793005 + 1442695040888963407
		return int(x>>33) % n
	}
}

// pick is one of a list.
func pick[T any](roll func(int) int, l ...T) T {
	return l[roll(len(l))]
}

// anyPath is a path of a few names, most often; of those that are there, at times.
func anyPath(roll func(int) int, m model) string {
	switch roll(12) {
	case 0:
		return pick(roll, "", "/", "//", "/a/", "a", "/.", "/"+long(51), "/a/"+long(50), "/"+long(60))
	case 1, 2, 3, 4, 5:
		return m[roll(len(m))].Path
	case 6, 7:
		return strings.TrimSuffix(m[roll(len(m))].Path, "/") + "/" + pick(roll, "a", "b", "a-", "n-")
	}
	var b strings.Builder
	for range 1 + roll(3) {
		b.WriteString("/" + pick(roll, "a", "b", "a-", "a.b", "ab", "n-", "0"))
	}
	return b.String()
}

func anyChange(roll func(int) int, m model) api.Change {
	c := api.Change{Kind: pick(roll, 1, 1, 1, 1, 2, 2, 3, 4), Path: anyPath(roll, m), Version: pick(roll, -1, -1, -1, 0, 0, 1, 2, -2)}
	c.Data = pick(roll, "", "x", "yy", long(20))
	c.Ephemeral, c.Sequence = roll(3) == 0, roll(3) == 0
	switch roll(40) {
	case 0:
		c.Kind = pick(roll, 0, 5, -1)
	case 1:
		c.Data = long(api.MaxText + roll(2))
	}
	return c
}

func anyChanges(roll func(int) int, m model) []api.Change {
	var l []api.Change
	for range pick(roll, 0, 1, 1, 1, 1, 2, 3, 4) {
		l = append(l, anyChange(roll, m))
	}
	return l
}

// walk holds a tree against the model on many calls.
func walk(t *testing.T, seed uint64, start model, steps int) {
	roll := dice(seed)
	m := start
	z := load(t, start)
	var asides []*ztree.Tree
	var models []model
	for step := range steps {
		zxid, session := pick(roll, step, step, step, roll(9), top, -1, top+1), pick(roll, 0, 5, 5, 7, 9, top, -1)
		switch roll(14) {
		case 0:
			var want []api.Event
			m, want = m.end(zxid, session)
			ended(t, z, zxid, session, want...)
		case 1:
			z = load(t, z.All())
		case 2:
			asides, models = append(asides, z), append(models, slices.Clone(m))
			z = z.Clone()
		default:
			l := anyChanges(roll, m)
			next, paths, events, want := m.do(zxid, session, l)
			p, v, e := z.Do(zxid, session, l)
			if e != want || !slices.Equal(p, paths) || !slices.Equal(v, events) {
				t.Fatalf("P8.1: seed %d, step %d: Do(%d, %d, %s) is %s, %s, %d, not %s, %s, %d", seed, step, zxid, session, short(l), short(p), short(v), e, short(paths), short(events), want)
			}
			m = next
		}
		if all := z.All(); !slices.Equal(all, []api.Znode(m)) {
			t.Fatalf("P8.5: seed %d, step %d: All is %s, not %s", seed, step, short(all), short(m))
		}
		if step%50 == 0 {
			holds(t, fmt.Sprintf("P8.3: seed %d, step %d", seed, step), z, m...)
		}
	}
	for k, z := range asides {
		if all := z.All(); !slices.Equal(all, []api.Znode(models[k])) {
			t.Fatalf("P8.3: seed %d: of what went on as a Clone All is %s, not %s", seed, short(all), short(models[k]))
		}
	}
}

func TestOfManyCalls(t *testing.T) {
	for seed := range uint64(30) {
		walk(t, seed, model{{Path: "/"}}, 600)
	}
}

func TestOfManyCallsOnAFullTree(t *testing.T) {
	for seed := range uint64(6) {
		start := nodes(api.MaxNodes - 5)
		for k := range start {
			start[k].Next, start[k].Stat.Kids = k, k
		}
		walk(t, 100+seed, start, 300)
	}
}

func TestOfManyCallsAtTheMost(t *testing.T) {
	for seed := range uint64(6) {
		start := model{{Path: "/", Next: greatest - 5}, {Path: "/a", Next: top - 3, Stat: api.Stat{Version: top - 1, Kids: top - 2}}, {Path: "/b", Next: greatest - 2, Stat: api.Stat{Kids: top}}}
		walk(t, 200+seed, start, 300)
	}
}

// soundParents asks that each znode but the root has a parent that is not ephemeral.
func soundParents(t *testing.T, z *ztree.Tree) {
	t.Helper()
	for _, x := range z.All()[1:] {
		if up, is := z.Get(parentOf(x.Path)); !is || up.Stat.Owner != 0 {
			t.Fatalf("P8.5: the parent of %s is %s, %v", x.Path, short(up), is)
		}
	}
}

// rise asks that what a Do numbered has greater numbers than what was numbered ahead of it under the same parent, of which last tells, and says how many there were. A parent that is deleted is forgotten.
func rise(t *testing.T, last map[string]int, l []api.Change, paths []string) int {
	t.Helper()
	numbered := 0
	for k, path := range paths {
		if l[k].Kind == api.Delete {
			delete(last, path)
		}
		if l[k].Kind != api.Create || !l[k].Sequence {
			continue
		}
		ahead, n, is := zname.Cut(path)
		before, asked := last[parentOf(path)]
		if !is || ahead != l[k].Path || asked && n <= before {
			t.Fatalf("P8.5: %s for %s, behind number %d", path, l[k].Path, before)
		}
		last[parentOf(path)] = n
		numbered++
	}
	return numbered
}

func TestWhatFollows(t *testing.T) {
	numbered := 0
	for seed := range uint64(20) {
		roll := dice(400 + seed)
		z := tree(t)
		last := map[string]int{}
		for step := range 200 {
			all, session := z.All(), pick(roll, 0, 5, 6)
			l := anyChanges(roll, all)
			paths, _, e := z.Do(step, session, l)
			if e != api.OK && !slices.Equal(z.All(), all) {
				t.Fatalf("P8.5: what Do(%s), refused, would have done is seen: %s", short(l), short(z.All()))
			}
			numbered += rise(t, last, l, paths)
			if roll(10) == 0 {
				for _, path := range z.Owned(session) {
					delete(last, path)
				}
				z.End(step, session)
			}
			soundParents(t, z)
		}
	}
	if numbered < 200 {
		t.Errorf("%d znodes were numbered", numbered)
	}
}

// A tree that is loaded from another's All goes on as that one does.
func TestLoadOfAllGoesOnAlike(t *testing.T) {
	for seed := range uint64(20) {
		roll := dice(300 + seed)
		z := tree(t)
		for step := range 100 {
			z.Do(step, pick(roll, 0, 5, 7), anyChanges(roll, z.All()))
		}
		other := load(t, z.All())
		if is, was := picture(other), picture(z); is != was {
			t.Fatalf("P8.5: Load of All: %s, not %s", short(is), short(was))
		}
		for step := range 200 {
			session := pick(roll, 0, 5, 7)
			if roll(20) == 0 {
				if a, b := z.End(step, session), other.End(step, session); !slices.Equal(a, b) {
					t.Fatalf("P8.5: End is %s, and %s of what was loaded", short(a), short(b))
				}
			}
			l := anyChanges(roll, z.All())
			p, v, e := z.Do(step, session, l)
			p2, v2, e2 := other.Do(step, session, l)
			if e != e2 || !slices.Equal(p, p2) || !slices.Equal(v, v2) || picture(z) != picture(other) {
				t.Fatalf("P8.5: Do(%s) is %s, %s, %d, and %s, %s, %d of what was loaded", short(l), short(p), short(v), e, short(p2), short(v2), e2)
			}
		}
	}
}

// transcript is all that is told on a long way.
func transcript() string {
	var b strings.Builder
	roll := dice(1)
	z := ztree.New()
	for step := range 300 {
		session := pick(roll, 0, 5, 7)
		p, v, e := z.Do(step, session, anyChanges(roll, z.All()))
		fmt.Fprintln(&b, p, v, e)
		if roll(15) == 0 {
			fmt.Fprintln(&b, z.Owned(session), z.End(step, session))
		}
		kids, is := z.Kids(anyPath(roll, z.All()))
		fmt.Fprintln(&b, kids, is)
	}
	return b.String() + picture(z)
}

func TestTheSameCallsTellTheSame(t *testing.T) {
	first := transcript()
	for range 20 {
		if transcript() != first {
			t.Fatal("R7: the same calls told something else")
		}
	}
	z := tree(t)
	for k := range 60 {
		do(t, z, 1, 7, ephemeral(fmt.Sprintf("/e%d", k*37%60)))
	}
	was := picture(z)
	events := z.Clone().End(2, 7)
	for range 30 {
		if picture(z) != was {
			t.Fatal("R7: the same calls told something else")
		}
		if l := z.Clone().End(2, 7); !slices.Equal(l, events) {
			t.Fatalf("R7: End is %s, and then %s", short(events), short(l))
		}
	}
}

func TestWhatIsGivenStays(t *testing.T) {
	spare := append(make([]api.Change, 0, 8), create("/a"), sequence("/a/n-"), set("/a", "x", 0), remove("/a/n-0000000000", -1), check("/a", 1), create("/a/b"), create("/none/x"))
	was := slices.Clone(spare)
	z := tree(t)
	do(t, z, 2, 0, spare[:6]...)
	if _, _, e := z.Do(3, 0, spare[5:7]); e != api.ErrTreeExists {
		t.Errorf("P8.1: Do is %d", e)
	}
	z.Do(4, 0, spare[6:7])
	if !slices.Equal(spare, was) || spare[:8][7] != (api.Change{}) {
		t.Errorf("R5: what Do was given is %s, not %s", short(spare[:8]), short(was))
	}
	l := append(make([]api.Znode, 0, 4), node("/"), node("/a"), owned("/b"))
	all := slices.Clone(l)
	load(t, l).End(2, 5)
	if !slices.Equal(l, all) || l[:4][3] != (api.Znode{}) {
		t.Errorf("R5: what Load was given is %s, not %s", short(l[:4]), short(all))
	}
}

// What was given is not looked at any more behind the call, nor what was told.
func TestWhatIsToldIsTheCallersOwn(t *testing.T) {
	given := []api.Change{createData("/a", "x"), create("/a/b"), ephemeral("/a/e"), create("/c")}
	z := tree(t)
	paths, events, _ := z.Do(2, 5, given)
	was := picture(z)
	spoil := func(what string) {
		t.Helper()
		if is := picture(z); is != was {
			t.Errorf("R6: to write into %s: %s, not %s", what, short(is), short(was))
		}
	}
	for k := range given {
		given[k] = remove("/zz", 9)
		paths[k], events[k] = "/zz", event(9, "/zz")
	}
	spoil("what Do was given and told")
	all := z.All()
	for k := range all {
		all[k] = api.Znode{Path: "/zz", Next: 9}
	}
	spoil("All")
	kids, _ := z.Kids("/a")
	again, _ := z.Kids("/a")
	owned := z.Owned(5)
	kids[0], owned[0] = "zz", "/zz"
	_ = append(kids[:1], "zz")
	if !slices.Equal(again, []string{"b", "e"}) {
		t.Errorf("R6: to write into Kids turns what was told ahead: %q", again)
	}
	spoil("Kids and Owned")
	x := get(t, z, "/a")
	x.Stat.Version, x.Data = 9, "zz"
	spoil("a znode")

	l := z.All()
	z = load(t, l)
	clear(l)
	spoil("what Load was given")
	gone := z.Clone().End(3, 5)
	clear(gone)
	spoil("what End told")
}

// changing is a text, and the bytes of which it is made: who clears them turns it into another one.
func changing(s string) (string, []byte) {
	b := []byte(s)
	return unsafe.String(unsafe.SliceData(b), len(b)), b
}

// What the tree keeps is its own, whatever becomes of the bytes of which the given texts were made.
func TestWhatIsKeptIsTheTreesOwn(t *testing.T) {
	path, a := changing("/ab")
	data, b := changing("xyz")
	n, c := changing("/n-")
	other, d := changing("uvw")
	z := tree(t)
	paths, events, e := z.Do(2, 0, []api.Change{createData(path, data), sequence(n), create("/b"), set("/b", other, 0), check(path, 0)})
	if e != api.OK || string(a) != "/ab" || string(b) != "xyz" || string(c) != "/n-" || string(d) != "uvw" {
		t.Fatalf("R5: %d; what was given is %q, %q, %q, %q", e, a, b, c, d)
	}
	for _, bytes := range [][]byte{a, b, c, d} {
		clear(bytes)
	}
	stat := api.Stat{Created: 2, Changed: 2, Children: 2}
	holds(t, "R6: what is kept", z,
		api.Znode{Path: "/", Next: 3, Stat: api.Stat{Children: 2, Kids: 3}},
		api.Znode{Path: "/ab", Data: "xyz", Stat: stat},
		api.Znode{Path: "/b", Data: "uvw", Stat: api.Stat{Created: 2, Changed: 2, Children: 2, Version: 1}},
		api.Znode{Path: "/n-0000000001", Stat: stat})
	if !slices.Equal(paths, []string{"/ab", "/n-0000000001", "/b", "/b", "/ab"}) || !slices.Equal(events, join(made("/ab"), made("/n-0000000001"), made("/b"), []api.Event{event(api.Changed, "/b")})) {
		t.Errorf("R6: what was told became %q, %v", paths, events)
	}
}

func TestWhatIsLoadedIsTheTreesOwn(t *testing.T) {
	path, a := changing("/ab")
	data, b := changing("xyz")
	z := load(t, []api.Znode{node("/"), {Path: path, Data: data}})
	if string(a) != "/ab" || string(b) != "xyz" {
		t.Fatalf("R5: what Load was given is %q, %q", a, b)
	}
	clear(a)
	clear(b)
	holds(t, "R6: what was loaded", z, node("/"), api.Znode{Path: "/ab", Data: "xyz"})
}
