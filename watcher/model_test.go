package watcher_test

import (
	"cmp"
	"fmt"
	"slices"
	"testing"

	"harpsichord/api"
	"harpsichord/watcher"
	"harpsichord/zname"
)

// model is a table by the chapter's words: its watches, in no order.
type model map[watcher.Watch]struct{}

func (m model) add(x watcher.Watch) bool {
	if x.Session < 1 || !zname.Valid(x.Path) {
		return false
	}
	others := 0
	for y := range m {
		if y != x {
			others++
		}
	}
	if others >= most {
		return false
	}
	m[x] = struct{}{}
	return true
}

func (m model) drop(session int) {
	for x := range m {
		if x.Session == session {
			delete(m, x)
		}
	}
}

func (m model) fire(e api.Event) []api.Event {
	with := []int{api.Children, api.Deleted}
	without := []int{api.Created, api.Deleted, api.Changed}
	sessions := map[int]struct{}{}
	for x := range m {
		if x.Path == e.Path && (x.Kids && slices.Contains(with, e.Kind) || !x.Kids && slices.Contains(without, e.Kind)) {
			sessions[x.Session] = struct{}{}
			delete(m, x)
		}
	}
	var l []api.Event
	for session := range sessions {
		l = append(l, api.Event{Session: session, Kind: e.Kind, Path: e.Path})
	}
	slices.SortFunc(l, func(a, b api.Event) int { return cmp.Compare(a.Session, b.Session) })
	return l
}

func (m model) all() []watcher.Watch {
	var l []watcher.Watch
	for x := range m {
		l = append(l, x)
	}
	number := func(kids bool) int {
		if kids {
			return 1
		}
		return 0
	}
	slices.SortFunc(l, func(a, b watcher.Watch) int {
		return cmp.Or(cmp.Compare(a.Session, b.Session), slices.Compare([]byte(a.Path), []byte(b.Path)), cmp.Compare(number(a.Kids), number(b.Kids)))
	})
	return l
}

func (m model) clone() model {
	c := model{}
	for x := range m {
		c[x] = struct{}{}
	}
	return c
}

// dice tells numbers below n, always the same ones for a seed.
func dice(seed uint64) func(n int) int {
	x := seed
	return func(n int) int {
		x = x*6364136223846793005 + 1442695040888963407
		return int(x>>33) % n
	}
}

// pick is one of a list.
func pick[T any](roll func(int) int, l ...T) T {
	return l[roll(len(l))]
}

// mixed are the same things in another order.
func mixed[T any](roll func(int) int, l []T) []T {
	l = slices.Clone(l)
	for k := range l {
		other := k + roll(len(l)-k)
		l[k], l[other] = l[other], l[k]
	}
	return l
}

// anyPath is one of a few paths; of n more, at times; no path, seldom.
func anyPath(roll func(int) int, n int) string {
	switch roll(20) {
	case 0:
		return pick(roll, noPaths()...)
	case 1, 2, 3, 4, 5, 6:
		return fmt.Sprint("/n", roll(n))
	}
	return pick(roll, "/", "/a", "/a", "/a-", "/a/b", "/a.b", "/ab", "/b")
}

// anySession is one of the first n sessions, most often.
func anySession(roll func(int) int, n int) int {
	if roll(20) == 0 {
		return pick(roll, 0, -1, -n, n+1, 1<<62, 1<<32+1)
	}
	return 1 + roll(n)
}

// pair is a table, and a model that it is held against.
type pair struct {
	w *watcher.Table
	m model
}

// step does one call with both, and tells what the table told.
func step(t *testing.T, what string, p pair, roll func(int) int, n int) string {
	session, path := anySession(roll, n), anyPath(roll, n)
	var got, want string
	switch kind := roll(100); {
	case kind < 60:
		x := watcher.Watch{Session: session, Path: path, Kids: roll(2) == 0}
		got, want = fmt.Sprintf("Add(%+v) %v", x, p.w.Add(x)), fmt.Sprintf("Add(%+v) %v", x, p.m.add(x))
	case kind < 65:
		p.w.Drop(session)
		p.m.drop(session)
		got, want = "Drop", "Drop"
	default:
		e := api.Event{Session: pick(roll, 0, 0, session), Kind: pick(roll, 1, 2, 3, 4, 4, pick(roll, noKinds()...)), Path: path}
		got, want = fmt.Sprintf("Fire(%+v) %+v", e, p.w.Fire(e)), fmt.Sprintf("Fire(%+v) %+v", e, p.m.fire(e))
	}
	if got != want {
		t.Fatalf("%s: %s, not %s", what, short(got), short(want))
	}
	holds(t, what, p.w, p.m.all()...)
	return got
}

// walk holds tables and their clones against models on many calls of sessions and paths of which there are some n, and tells all that was told.
func walk(t *testing.T, seed uint64, n, calls int) []string {
	roll := dice(seed)
	pairs := []pair{{watcher.New(), model{}}}
	var told []string
	for call := range calls {
		k := roll(len(pairs))
		told = append(told, step(t, fmt.Sprintf("seed %d, call %d", seed, call), pairs[k], roll, n))
		if roll(50) == 0 {
			copied := pair{pairs[k].w.Clone(), pairs[k].m.clone()}
			if len(pairs) < 4 {
				pairs = append(pairs, copied)
			} else {
				pairs[roll(4)] = copied
			}
		}
	}
	for _, p := range pairs {
		holds(t, fmt.Sprintf("seed %d, at last", seed), p.w, p.m.all()...)
	}
	return told
}

func TestOfManyCalls(t *testing.T) {
	for seed := range uint64(40) {
		walk(t, seed, 1+int(seed)%8, 1000)
	}
}

// On a table that has no room, or little.
func TestOfManyCallsOnAFullTable(t *testing.T) {
	for seed := range uint64(4) {
		roll := dice(100 + seed)
		p := pair{watcher.New(), model{}}
		full := 0
		for call := range 1500 {
			for p.w.Len() < most-3 {
				x := watcher.Watch{Session: 1 + roll(60), Path: fmt.Sprint("/n", roll(60)), Kids: roll(2) == 0}
				if got, want := p.w.Add(x), p.m.add(x); got != want {
					t.Fatalf("seed %d: Add(%+v) is %v", seed, x, got)
				}
			}
			step(t, fmt.Sprintf("seed %d, call %d", seed, call), p, roll, 60)
			if p.w.Len() == most {
				full++
			}
		}
		if full < 100 {
			t.Errorf("seed %d: it was full %d times", seed, full)
		}
	}
}

// A watch is told of once at most, and of an event nobody is told twice: each that is told took a watch of that session, on that path.
func TestWhatFollows(t *testing.T) {
	for seed := range uint64(30) {
		roll := dice(200 + seed)
		w := watcher.New()
		told := 0
		for range 1500 {
			if roll(2) == 0 {
				w.Add(watcher.Watch{Session: anySession(roll, 5), Path: anyPath(roll, 3), Kids: roll(2) == 0})
				continue
			}
			e := event(1+roll(4), anyPath(roll, 3))
			before := w.All()
			l := w.Fire(e)
			after := w.All()
			for k, x := range l {
				if k > 0 && x.Session <= l[k-1].Session {
					t.Fatalf("P9.3: seed %d: of %+v is told %s", seed, e, short(l))
				}
				of := func(y watcher.Watch) bool { return y.Session == x.Session && y.Path == e.Path }
				if count(after, of) >= count(before, of) {
					t.Fatalf("P9.3: seed %d: of %+v session %d is told, by no watch of %s", seed, e, x.Session, short(before))
				}
			}
			if again := w.Fire(e); len(again) > 0 {
				t.Fatalf("P9.3: seed %d: of %+v once more is told %s", seed, e, short(again))
			}
			told += len(l)
		}
		if told < 100 {
			t.Errorf("seed %d: %d were told", seed, told)
		}
	}
}

// count is how many are wanted.
func count(l []watcher.Watch, wanted func(watcher.Watch) bool) int {
	n := 0
	for _, x := range l {
		if wanted(x) {
			n++
		}
	}
	return n
}

func TestTheSameCallsTellTheSame(t *testing.T) {
	for seed := range uint64(8) {
		first := walk(t, seed, 5, 600)
		walk(t, seed+1, 7, 200) // other tables make no difference
		if again := walk(t, seed, 5, 600); !slices.Equal(first, again) {
			t.Errorf("R7: seed %d: the same calls tell others", seed)
		}
	}
}

// Whatever the order in which watches came, the same is told.
func TestTheOrderOfComingIsNotTold(t *testing.T) {
	l := inOrder()
	first := table(t, l...).Fire(event(api.Deleted, "/a"))
	for seed := range uint64(50) {
		w := table(t, mixed(dice(seed), l)...)
		fired(t, w, event(api.Deleted, "/a"), first...)
	}
}
