package watcher_test

import (
	"fmt"
	"math"
	"slices"
	"strings"
	"testing"
	"unsafe"

	"harpsichord/api"
	"harpsichord/watcher"
)

// most is how many watches a table may have.
const most = 500

// kinds are all kinds of events.
func kinds() []int {
	return []int{api.Created, api.Deleted, api.Changed, api.Children}
}

// noKinds are numbers that are no Kind.
func noKinds() []int {
	return []int{0, 5, 6, -1, -2, -4, 8, 257, 1<<32 + api.Deleted, math.MinInt, math.MaxInt}
}

// node is a watch on what a znode is, and kids one on its children.
func node(session int, path string) watcher.Watch {
	return watcher.Watch{Session: session, Path: path}
}

func kids(session int, path string) watcher.Watch {
	return watcher.Watch{Session: session, Path: path, Kids: true}
}

// event is one as a tree makes it, and to is one as a session is told it.
func event(kind int, path string) api.Event {
	return api.Event{Kind: kind, Path: path}
}

func to(session, kind int, path string) api.Event {
	return api.Event{Session: session, Kind: kind, Path: path}
}

func long(n int) string {
	return strings.Repeat("x", n)
}

func deep(n int) string {
	return strings.Repeat("/d", n)
}

// short is anything as a line that can be read, however long it is.
func short(x any) string {
	s := strings.ToValidUTF8(fmt.Sprintf("%+v", x), "?")
	return s[:min(len(s), 1200)]
}

// noPaths are texts that are no path.
func noPaths() []string {
	return []string{
		"", "a", "a/b", "/a/", "//", "/a//b", "//a", ".", "..", "/.", "/..", "/a/.", "/a/..", " /a", "/a ", "/a b", "/\x00", "/a\n", "/\u00e9", "/\xff", "/a*",
		"/" + long(api.MaxName+1), "/a/" + long(api.MaxName+1), "/" + long(api.MaxName+1) + "/a", deep(api.MaxDepth + 1), deep(api.MaxDepth) + "/", long(1 << 16),
	}
}

// holds asks that a table has these watches, in this order, and no other.
func holds(t *testing.T, what string, w *watcher.Table, want ...watcher.Watch) {
	t.Helper()
	if all := w.All(); !slices.Equal(all, want) {
		t.Fatalf("%s: All is %s, not %s", what, short(all), short(want))
	}
	if w.Len() != len(want) {
		t.Fatalf("%s: Len is %d, not %d", what, w.Len(), len(want))
	}
}

// add asks that watches are taken.
func add(t *testing.T, w *watcher.Table, l ...watcher.Watch) {
	t.Helper()
	for _, x := range l {
		if !w.Add(x) {
			t.Fatalf("P9.1: Add(%s) is false, of %d watches", short(x), w.Len())
		}
	}
}

// refused asks that a watch is not taken, and that nothing is done.
func refused(t *testing.T, w *watcher.Table, x watcher.Watch) {
	t.Helper()
	before := w.All()
	if w.Add(x) {
		t.Fatalf("P9.1: Add(%s) is true, of %d watches", short(x), len(before))
	}
	holds(t, "P9.1: behind a refused Add", w, before...)
}

// table is one of these watches.
func table(t *testing.T, l ...watcher.Watch) *watcher.Table {
	t.Helper()
	w := watcher.New()
	add(t, w, l...)
	return w
}

// fired asks who is told of an event.
func fired(t *testing.T, w *watcher.Table, e api.Event, want ...api.Event) {
	t.Helper()
	if told := w.Fire(e); !slices.Equal(told, want) {
		t.Fatalf("P9.2: Fire(%s) is %s, not %s", short(e), short(told), short(want))
	}
}

// many are so many watches, of many sessions, in order.
func many(n int) []watcher.Watch {
	var l []watcher.Watch
	for k := range n {
		l = append(l, watcher.Watch{Session: 1 + k/10, Path: fmt.Sprintf("/n%d", k/2%5), Kids: k%2 == 1})
	}
	return l
}

func TestExamples(t *testing.T) {
	w := table(t, node(2, "/a"), kids(1, "/a"))
	fired(t, w, event(api.Deleted, "/a"), to(1, api.Deleted, "/a"), to(2, api.Deleted, "/a"))
	fired(t, w, event(api.Deleted, "/a"))
	holds(t, "P9.2: behind both", w)
}

func TestNew(t *testing.T) {
	w := watcher.New()
	if w == nil {
		t.Fatal("P9.1: New is nil")
	}
	holds(t, "P9.1: New", w)
	add(t, w, node(1, "/a"))
	holds(t, "P9.1: another New", watcher.New())
}

func TestSessions(t *testing.T) {
	w := table(t, node(7, "/b"))
	for _, session := range []int{0, -1, -2, -7, math.MinInt32, -1 << 40, math.MinInt} {
		for _, path := range []string{"/", "/a", "/b", "b"} {
			refused(t, w, node(session, path))
			refused(t, w, kids(session, path))
		}
	}
	for _, session := range []int{1, 2, 255, 256, math.MaxInt32, math.MaxInt32 + 1, math.MaxUint32 + 1, 1 << 40, 1 << 62, math.MaxInt} {
		holds(t, "P9.1: one session", table(t, node(session, "/a")), node(session, "/a"))
		holds(t, "P9.1: one session", table(t, kids(session, "/a")), kids(session, "/a"))
	}
}

func TestPaths(t *testing.T) {
	w := table(t, node(7, "/b"))
	for _, path := range noPaths() {
		refused(t, w, node(1, path))
		refused(t, w, kids(1, path))
		refused(t, w, node(7, path))
		refused(t, w, node(0, path))
	}
	for _, path := range []string{"/", "/a", "/a/b", "/...", "/n-0000000007", "/" + long(api.MaxName), deep(api.MaxDepth), strings.Repeat("/"+long(api.MaxName), api.MaxDepth)} {
		holds(t, "P9.1: one path", table(t, node(1, path)), node(1, path))
		holds(t, "P9.1: one path", table(t, kids(1, path)), kids(1, path))
	}
}

func TestTheSameWatchIsThereOnce(t *testing.T) {
	for _, x := range []watcher.Watch{node(1, "/a"), kids(1, "/a"), node(2, "/"), kids(2, "/")} {
		holds(t, "P9.1: twice", table(t, x, x), x)
		holds(t, "P9.1: five times", table(t, x, x, x, x, x), x)
	}
	w := table(t, kids(2, "/a"), node(1, "/a"), node(2, "/a"), kids(1, "/a"), node(1, "/b"))
	add(t, w, node(1, "/a"), kids(2, "/a"), node(1, "/b"), node(2, "/a"), kids(1, "/a"))
	holds(t, "P9.1: all twice", w, node(1, "/a"), kids(1, "/a"), node(1, "/b"), node(2, "/a"), kids(2, "/a"))
}

func TestWatchesThatAreNotTheSame(t *testing.T) {
	holds(t, "P9.1: but for Kids", table(t, node(1, "/a"), kids(1, "/a")), node(1, "/a"), kids(1, "/a"))
	holds(t, "P9.1: but for the Session", table(t, node(1, "/a"), node(2, "/a")), node(1, "/a"), node(2, "/a"))
	holds(t, "P9.1: but for the Session", table(t, kids(1, "/a"), kids(2, "/a")), kids(1, "/a"), kids(2, "/a"))
	holds(t, "P9.1: but for the Path", table(t, node(1, "/a"), node(1, "/b")), node(1, "/a"), node(1, "/b"))
	holds(t, "P9.1: but for the Path", table(t, node(1, "/a"), node(1, "/A")), node(1, "/A"), node(1, "/a"))
	holds(t, "P9.1: sessions that are alike in their last 32 bits", table(t, node(1<<32+1, "/a"), node(1, "/a")), node(1, "/a"), node(1<<32+1, "/a"))
}

func TestRoom(t *testing.T) {
	all := many(most)
	w := table(t, all[:most-1]...)
	holds(t, "P9.1: 499", w, all[:most-1]...)
	add(t, w, all[0], all[most-2]) // there already
	holds(t, "P9.1: 499", w, all[:most-1]...)
	add(t, w, all[most-1])
	holds(t, "P9.1: 500", w, all...)
	for _, x := range []watcher.Watch{node(1, "/"), kids(1, "/o"), node(most, "/a"), node(math.MaxInt, "/a"), kids(3, "/n0/a"), node(3, "/n00")} {
		refused(t, w, x)
	}
	refused(t, w, node(0, "/a"))
	refused(t, w, node(1, "a"))
	add(t, w, all...) // each has 499 others
	holds(t, "P9.1: 500", w, all...)
}

func TestRoomOfOneSessionAndOfOnePath(t *testing.T) {
	var paths, sessions []watcher.Watch
	for k := range most {
		paths = append(paths, node(1, fmt.Sprintf("/p%03d", k)))
		sessions = append(sessions, kids(1+k, "/a"))
	}
	w := table(t, paths...)
	holds(t, "P9.1: of one session", w, paths...)
	refused(t, w, node(1, "/q"))
	w = table(t, sessions...)
	holds(t, "P9.1: on one path", w, sessions...)
	refused(t, w, kids(most+1, "/a"))
	refused(t, w, node(1, "/a"))
}

// What is there no more takes no room.
func TestRoomAgain(t *testing.T) {
	all := many(most)
	x, y := node(1000, "/x"), kids(1000, "/x")
	w := table(t, all...)
	w.Drop(50)
	add(t, w, many(most)[490:]...)
	holds(t, "P9.1: 500 again", w, all...)
	refused(t, w, x)
	w.Fire(event(api.Changed, "/n3")) // 50 of them
	if w.Len() != most-50 {
		t.Fatalf("P9.2: Len is %d", w.Len())
	}
	add(t, w, x, y)
	for k := range 48 {
		add(t, w, node(2000+k, "/y"))
	}
	refused(t, w, node(3000, "/y"))
	fired(t, w, event(api.Children, "/x"), to(1000, api.Children, "/x"))
	add(t, w, node(3000, "/y"))
	refused(t, w, y)
	add(t, w, x)
}

// inOrder are watches in the chapter's order: by Session, then Path, then those without Kids first.
func inOrder() []watcher.Watch {
	var l []watcher.Watch
	paths := []string{"/", "/-", "/.a", "/0", "/10", "/9", "/A", "/Z", "/_", "/a", "/a-", "/a-/b", "/a-b", "/a.", "/a.b", "/a/b", "/a/b/c", "/a/bc", "/a0", "/aA", "/a_", "/aa", "/ab", "/ab/c", "/b", "/z"}
	for _, session := range []int{1, 2, 9, 10, 11, 100, math.MaxInt32 + 1, math.MaxInt} {
		for _, path := range paths {
			l = append(l, node(session, path), kids(session, path))
		}
	}
	return l
}

func TestOrder(t *testing.T) {
	want := inOrder()
	holds(t, "P9.1: in order", table(t, want...), want...)
	back := slices.Clone(want)
	slices.Reverse(back)
	holds(t, "P9.1: the other way round", table(t, back...), want...)
	for seed := range uint64(50) {
		roll := dice(seed)
		holds(t, fmt.Sprint("P9.1: mixed by ", seed), table(t, mixed(roll, want)...), want...)
	}
}

func TestOrderBehindEachCall(t *testing.T) {
	want := []watcher.Watch{node(1, "/a"), kids(1, "/a"), node(1, "/b"), kids(2, "/a"), node(2, "/a/b"), node(10, "/a")}
	w := watcher.New()
	add(t, w, want[3])
	holds(t, "P9.1", w, want[3])
	add(t, w, want[5])
	holds(t, "P9.1", w, want[3], want[5])
	add(t, w, want[0])
	holds(t, "P9.1", w, want[0], want[3], want[5])
	add(t, w, want[4])
	holds(t, "P9.1", w, want[0], want[3], want[4], want[5])
	add(t, w, want[2])
	holds(t, "P9.1", w, want[0], want[2], want[3], want[4], want[5])
	add(t, w, want[1])
	holds(t, "P9.1", w, want...)
}

func TestLen(t *testing.T) {
	w := watcher.New()
	is := func(want int) {
		t.Helper()
		if w.Len() != want {
			t.Fatalf("P9.1: Len is %d, not %d", w.Len(), want)
		}
	}
	is(0)
	w.Add(node(1, "/a"))
	is(1)
	w.Add(node(1, "/a"))
	is(1)
	w.Add(node(0, "/a"))
	w.Add(node(1, "a"))
	is(1)
	w.Add(kids(1, "/a"))
	w.Add(node(2, "/a"))
	w.Add(node(2, "/b"))
	is(4)
	w.All()
	w.Clone().Drop(1)
	is(4)
	w.Fire(event(api.Changed, "/c"))
	w.Fire(event(5, "/a"))
	is(4)
	w.Fire(event(api.Changed, "/a"))
	is(2)
	w.Drop(3)
	is(2)
	w.Drop(2)
	is(1)
	w.Fire(event(api.Deleted, "/a"))
	is(0)
	w.Drop(1)
	is(0)
}

func TestDrop(t *testing.T) {
	all := []watcher.Watch{node(1, "/"), node(2, "/a"), kids(2, "/a"), node(2, "/b"), kids(2, "/c/d"), kids(3, "/a"), node(22, "/a")}
	w := table(t, all...)
	for _, session := range []int{0, -1, -2, -3, 4, 20, 1<<32 + 2, math.MinInt, math.MaxInt} {
		w.Drop(session)
		holds(t, fmt.Sprint("P9.1: Drop of a session without watches, ", session), w, all...)
	}
	w.Drop(2)
	holds(t, "P9.1: Drop of a session with several", w, all[0], all[5], all[6])
	w.Drop(2)
	holds(t, "P9.1: Drop once more", w, all[0], all[5], all[6])
	fired(t, w, event(api.Deleted, "/a"), to(3, api.Deleted, "/a"), to(22, api.Deleted, "/a"))
	w.Drop(1)
	holds(t, "P9.1: Drop of the last", w)
	w.Drop(1)
	holds(t, "P9.1: Drop of none", w)
	add(t, w, all...)
	holds(t, "P9.1: added again", w, all...)
}

// A session that was dropped may watch again, and is told of it.
func TestDropAndAddAgain(t *testing.T) {
	w := table(t, node(1, "/a"), node(2, "/a"))
	w.Drop(1)
	add(t, w, kids(1, "/a"))
	holds(t, "P9.1: added again", w, kids(1, "/a"), node(2, "/a"))
	fired(t, w, event(api.Children, "/a"), to(1, api.Children, "/a"))
}

func TestClone(t *testing.T) {
	holds(t, "P9.1: Clone of none", watcher.New().Clone())
	all := []watcher.Watch{node(1, "/a"), kids(1, "/a"), node(2, "/a"), kids(3, "/b")}
	changes := []func(*watcher.Table){
		func(w *watcher.Table) { w.Add(node(1, "/")) },
		func(w *watcher.Table) { w.Add(node(1, "/0")); w.Add(node(4, "/c")); w.Add(kids(2, "/a")) },
		func(w *watcher.Table) { w.Drop(1) },
		func(w *watcher.Table) { w.Drop(3) },
		func(w *watcher.Table) { w.Fire(event(api.Deleted, "/a")) },
		func(w *watcher.Table) { w.Fire(event(api.Children, "/a")) },
		func(w *watcher.Table) { w.Drop(1); w.Add(node(9, "/a")); w.Add(node(8, "/a")) },
		func(w *watcher.Table) { w.Drop(1); w.Drop(2); w.Drop(3) },
	}
	for k, change := range changes {
		w := table(t, all...)
		c := w.Clone()
		holds(t, "P9.1: Clone", c, all...)
		change(c)
		holds(t, fmt.Sprintf("P9.1: behind change %d of its Clone", k), w, all...)
		if c.Len() == w.Len() && slices.Equal(c.All(), all) {
			t.Fatalf("P9.1: change %d of a Clone was not done", k)
		}
		w = table(t, all...)
		c = w.Clone()
		change(w)
		holds(t, fmt.Sprintf("P9.1: behind change %d of what it is a Clone of", k), c, all...)
		add(t, w, node(6, "/w"))
		add(t, c, node(6, "/c"))
		holds(t, fmt.Sprintf("P9.1: behind change %d, both were added to", k), c, append(slices.Clone(all), node(6, "/c"))...)
	}
}

// Both tell of a watch, each once.
func TestCloneFires(t *testing.T) {
	w := table(t, node(2, "/a"), kids(1, "/a"))
	c := w.Clone()
	d := c.Clone()
	for _, x := range []*watcher.Table{w, c, d} {
		fired(t, x, event(api.Deleted, "/a"), to(1, api.Deleted, "/a"), to(2, api.Deleted, "/a"))
		fired(t, x, event(api.Deleted, "/a"))
	}
}

func TestCloneOfAFullTable(t *testing.T) {
	w := table(t, many(most)...)
	c := w.Clone()
	refused(t, c, node(1000, "/a"))
	c.Drop(1)
	add(t, c, node(1000, "/a"))
	refused(t, w, node(1000, "/a"))
	holds(t, "P9.1: behind what its Clone did", w, many(most)...)
}

// touched are the watches of one session that an event of a kind touches, and left the others.
func touched(kind int) (told bool, left []watcher.Watch) {
	switch kind {
	case api.Created, api.Changed:
		return true, []watcher.Watch{kids(7, "/a")}
	case api.Children:
		return true, []watcher.Watch{node(7, "/a")}
	case api.Deleted:
		return true, nil
	}
	return false, []watcher.Watch{node(7, "/a"), kids(7, "/a")}
}

func TestKindsWithoutKids(t *testing.T) {
	for _, kind := range []int{api.Created, api.Deleted, api.Changed} {
		w := table(t, node(7, "/a"))
		fired(t, w, event(kind, "/a"), to(7, kind, "/a"))
		holds(t, fmt.Sprint("P9.2: behind kind ", kind), w)
	}
	w := table(t, node(7, "/a"))
	fired(t, w, event(api.Children, "/a"))
	holds(t, "P9.2: behind Children", w, node(7, "/a"))
}

func TestKindsWithKids(t *testing.T) {
	for _, kind := range []int{api.Children, api.Deleted} {
		w := table(t, kids(7, "/a"))
		fired(t, w, event(kind, "/a"), to(7, kind, "/a"))
		holds(t, fmt.Sprint("P9.2: behind kind ", kind), w)
	}
	for _, kind := range []int{api.Created, api.Changed} {
		w := table(t, kids(7, "/a"))
		fired(t, w, event(kind, "/a"))
		holds(t, fmt.Sprint("P9.2: behind kind ", kind), w, kids(7, "/a"))
	}
}

// A session that has both is told once.
func TestKindsWithBoth(t *testing.T) {
	for _, kind := range append(kinds(), noKinds()...) {
		w := table(t, kids(7, "/a"), node(7, "/a"))
		told, left := touched(kind)
		var want []api.Event
		if told {
			want = []api.Event{to(7, kind, "/a")}
		}
		fired(t, w, event(kind, "/a"), want...)
		holds(t, fmt.Sprint("P9.2: behind kind ", kind), w, left...)
		fired(t, w, event(kind, "/a"))
		holds(t, fmt.Sprint("P9.2: behind kind once more, ", kind), w, left...)
	}
}

func TestNoKind(t *testing.T) {
	all := []watcher.Watch{node(1, "/"), kids(1, "/"), node(1, "/a"), kids(1, "/a"), node(2, "/a")}
	w := table(t, all...)
	for _, kind := range noKinds() {
		for _, path := range []string{"/", "/a", "/b", "", "a"} {
			fired(t, w, event(kind, path))
			fired(t, w, to(1, kind, path))
			holds(t, fmt.Sprint("P9.2: behind no kind, ", kind), w, all...)
		}
	}
}

func TestSeveralSessions(t *testing.T) {
	sessions := []int{100, 2, math.MaxInt, 9, 11, 1, 10, math.MaxInt32 + 1}
	rising := slices.Sorted(slices.Values(sessions))
	for _, kind := range kinds() {
		w := watcher.New()
		var want []api.Event
		var left []watcher.Watch
		for k, session := range sessions {
			if k%3 != 1 {
				add(t, w, node(session, "/a"))
			}
			if k%3 != 2 {
				add(t, w, kids(session, "/a"))
			}
		}
		for _, session := range rising {
			_, stays := touched(kind)
			k := slices.Index(sessions, session)
			hasNode, hasKids := k%3 != 1, k%3 != 2
			staysNode, staysKids := slices.Contains(stays, node(7, "/a")), slices.Contains(stays, kids(7, "/a"))
			if hasNode && staysNode {
				left = append(left, node(session, "/a"))
			}
			if hasKids && staysKids {
				left = append(left, kids(session, "/a"))
			}
			if hasNode && !staysNode || hasKids && !staysKids {
				want = append(want, to(session, kind, "/a"))
			}
		}
		fired(t, w, event(kind, "/a"), want...)
		holds(t, fmt.Sprint("P9.2: several sessions, kind ", kind), w, left...)
	}
}

func TestAllOfAFullTable(t *testing.T) {
	w := watcher.New()
	var want []api.Event
	for k := range most / 2 {
		session := most/2 - k
		add(t, w, kids(session, "/a"), node(session, "/a"))
		want = append(want, to(1+k, api.Deleted, "/a"))
	}
	c := w.Clone()
	fired(t, w, event(api.Deleted, "/a"), want...)
	holds(t, "P9.2: behind a Deleted", w)
	for k := range want {
		want[k].Kind = api.Children
	}
	fired(t, c, event(api.Children, "/a"), want...)
	if c.Len() != most/2 {
		t.Errorf("P9.2: Len is %d", c.Len())
	}
}

func TestPathsThatNobodyWatches(t *testing.T) {
	all := []watcher.Watch{node(1, "/a"), kids(1, "/a"), node(2, "/a/b"), kids(2, "/a/b")}
	w := table(t, all...)
	for _, kind := range kinds() {
		for _, path := range append(noPaths(), "/", "/b", "/A", "/a/b/c", "/a/a", "/ab", "/a-", "/a/bc", deep(api.MaxDepth)) {
			fired(t, w, event(kind, path))
			fired(t, watcher.New(), event(kind, path))
			holds(t, "P9.2: behind a path that nobody watches", w, all...)
		}
	}
}

// Watches on a parent, a child, or a path of which the other is the beginning, are not touched.
func TestOtherPaths(t *testing.T) {
	for _, kind := range kinds() {
		w := watcher.New()
		var want []watcher.Watch
		for _, path := range []string{"/", "/a", "/a-", "/a/b", "/a/b-", "/a/b/c", "/a/bc", "/a/c", "/ab", "/b"} {
			want = append(want, node(7, path), kids(7, path))
		}
		add(t, w, want...)
		fired(t, w, event(kind, "/a/b"), to(7, kind, "/a/b"))
		_, left := touched(kind)
		want = slices.DeleteFunc(want, func(x watcher.Watch) bool {
			return x.Path == "/a/b" && !slices.Contains(left, watcher.Watch{Session: 7, Path: "/a", Kids: x.Kids})
		})
		holds(t, fmt.Sprint("P9.2: on other paths, kind ", kind), w, want...)
	}
}

func TestTheRoot(t *testing.T) {
	w := table(t, node(1, "/"), kids(2, "/"), node(3, "/a"))
	fired(t, w, event(api.Created, "/a"), to(3, api.Created, "/a"))
	fired(t, w, event(api.Children, "/"), to(2, api.Children, "/"))
	fired(t, w, event(api.Changed, "/"), to(1, api.Changed, "/"))
	holds(t, "P9.2: the root", w)
}

// An event's own Session says nothing of who is told.
func TestEventsWithASession(t *testing.T) {
	for _, session := range []int{1, 2, 3, 4, 0, -1, math.MinInt, math.MaxInt} {
		w := table(t, node(1, "/a"), kids(3, "/a"), node(3, "/a"), node(4, "/b"))
		fired(t, w, to(session, api.Deleted, "/a"), to(1, api.Deleted, "/a"), to(3, api.Deleted, "/a"))
		fired(t, w, to(session, api.Deleted, "/a"))
		holds(t, "P9.2: behind an event with a session", w, node(4, "/b"))
	}
}

func TestAddedAgainIsToldAgain(t *testing.T) {
	w := watcher.New()
	for _, kind := range append(kinds(), kinds()...) {
		add(t, w, node(7, "/a"), kids(7, "/a"), node(7, "/a"))
		fired(t, w, event(kind, "/a"), to(7, kind, "/a"))
		fired(t, w, event(kind, "/a"))
	}
	add(t, w, node(8, "/a")) // another session's tells nothing to the first one
	holds(t, "P9.3: behind a last Children", w, node(7, "/a"), node(8, "/a"))
	fired(t, w, event(api.Changed, "/a"), to(7, api.Changed, "/a"), to(8, api.Changed, "/a"))
	add(t, w, node(8, "/a"))
	fired(t, w, event(api.Changed, "/a"), to(8, api.Changed, "/a"))
}

// What a tree tells of one znode's life reaches a watch once, whichever event comes first.
func TestAWatchIsToldOfOnce(t *testing.T) {
	life := []api.Event{event(api.Created, "/a"), event(api.Children, "/"), event(api.Changed, "/a"), event(api.Changed, "/a"), event(api.Children, "/a"), event(api.Deleted, "/a"), event(api.Children, "/")}
	for k := range life {
		w := table(t, node(1, "/a"), kids(2, "/a"), kids(3, "/"))
		times := map[int]int{}
		for _, e := range append(slices.Clone(life[k:]), life[:k]...) {
			for _, told := range w.Fire(e) {
				times[told.Session]++
			}
		}
		if times[1] != 1 || times[2] != 1 || times[3] != 1 || len(times) != 3 {
			t.Errorf("P9.3: told so often each: %v", times)
		}
		holds(t, "P9.3: behind a life", w)
	}
}

func TestWhatIsToldIsTheCallers(t *testing.T) {
	all := []watcher.Watch{node(1, "/a"), kids(1, "/a"), node(2, "/a"), node(3, "/b")}
	w := table(t, all...)
	first, second := w.All(), w.All()
	for k := range first {
		first[k] = node(99, "/z")
	}
	_ = append(first[:1], node(98, "/y"))
	if !slices.Equal(second, all) {
		t.Errorf("R6: what All told is %s, behind what it told ahead was written into", short(second))
	}
	holds(t, "R6: behind a list that was written into", w, all...)

	c := w.Clone()
	told, other := w.Fire(event(api.Changed, "/a")), c.Fire(event(api.Changed, "/a"))
	kept := slices.Clone(other)
	for k := range told {
		told[k] = to(99, 9, "/z")
	}
	_ = append(told[:1], to(98, 8, "/y"), to(97, 7, "/x"))
	holds(t, "R6: behind events that were written into", w, all[1], all[3])
	if !slices.Equal(other, kept) {
		t.Errorf("R6: what another Fire told is %s, not %s", short(other), short(kept))
	}
	add(t, c, node(1, "/a"), node(5, "/a"))
	c.Fire(event(api.Deleted, "/a"))
	c.Drop(3)
	if !slices.Equal(other, kept) || !slices.Equal(second, all) {
		t.Errorf("R6: later calls made of what was told %s, %s", short(other), short(second))
	}
}

// A list that was told is no piece of what the table keeps.
func TestWhatIsToldStaysBehindEachCall(t *testing.T) {
	w := table(t, inOrder()...)
	for _, call := range []func(){
		func() { w.Add(node(1, "/")) },
		func() { w.Add(node(1, "/+")) },
		func() { w.Add(node(1, "/-0")) },
		func() { w.Fire(event(api.Deleted, "/a")) },
		func() { w.Drop(2) },
		func() { w.Add(node(2, "/a")) },
		func() { w.Drop(math.MaxInt) },
		func() { w.Fire(event(api.Children, "/")) },
	} {
		all := w.All()
		before := slices.Clone(all)
		call()
		if !slices.Equal(all, before) {
			t.Fatalf("R6: a later call made of what All told %s", short(all))
		}
	}
}

// inBytes is a text, and the bytes that it lies in.
func inBytes(s string) (string, []byte) {
	b := []byte(s)
	return unsafe.String(unsafe.SliceData(b), len(b)), b
}

// Nothing that was handed in is kept, or told of, by its own memory.
func TestWhatIsGivenIsNotKept(t *testing.T) {
	path, b := inBytes("/a/b")
	w := table(t, node(1, path), kids(1, path), node(2, path))
	w.Fire(event(api.Children, path))
	w.Add(node(0, path))
	if string(b) != "/a/b" {
		t.Errorf("R5: what was given is %q", b)
	}
	clear(b)
	holds(t, "R6: behind a path that was written into", w, node(1, "/a/b"), node(2, "/a/b"))

	path, b = inBytes("/a/b")
	told := w.Fire(event(api.Changed, path))
	clear(b)
	if want := []api.Event{to(1, api.Changed, "/a/b"), to(2, api.Changed, "/a/b")}; !slices.Equal(told, want) {
		t.Errorf("R6: what was told became %s", short(told))
	}
	add(t, w, node(1, "/a/b"))
	path, b = inBytes("/a/b")
	add(t, w, node(1, path)) // there already
	clear(b)
	holds(t, "R6: behind a path that was written into", w, node(1, "/a/b"))
}
