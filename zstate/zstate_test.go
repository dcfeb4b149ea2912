package zstate_test

import (
	"fmt"
	"math"
	"slices"
	"strings"
	"testing"

	"harpsichord/api"
	"harpsichord/lease"
	"harpsichord/zstate"
	"harpsichord/ztree"
)

// The bounds of what a transaction may have.
const (
	top      = 1 << 62 // of a zxid, and of a Number
	mostSpan = 1000000
	sessions = 100
)

// opening, renewal, closing, change and ending are transactions of the kinds 1 to 5.
func opening(span, now int) zstate.Txn {
	return zstate.Txn{Kind: 1, Span: span, Now: now}
}

func renewal(session, now int) zstate.Txn {
	return zstate.Txn{Kind: 2, Session: session, Now: now}
}

func closing(session int) zstate.Txn {
	return zstate.Txn{Kind: 3, Session: session}
}

func change(session, number int, l ...api.Change) zstate.Txn {
	return zstate.Txn{Kind: 4, Session: session, Number: number, L: l}
}

func ending(session, now int) zstate.Txn {
	return zstate.Txn{Kind: 5, Session: session, Now: now}
}

func create(path string) api.Change {
	return api.Change{Kind: api.Create, Path: path}
}

func ephemeral(path string) api.Change {
	return api.Change{Kind: api.Create, Path: path, Ephemeral: true}
}

func sequence(path string) api.Change {
	return api.Change{Kind: api.Create, Path: path, Sequence: true}
}

func remove(path string) api.Change {
	return api.Change{Kind: api.Delete, Path: path, Version: -1}
}

func set(path, data string) api.Change {
	return api.Change{Kind: api.SetTo, Path: path, Data: data, Version: -1}
}

func check(path string) api.Change {
	return api.Change{Kind: api.Check, Path: path, Version: -1}
}

// checks are so many changes that can be done on any tree.
func checks(n int) []api.Change {
	return slices.Repeat([]api.Change{check("/")}, n)
}

// code and paths are replies.
func code(e api.Errno) zstate.Reply {
	return zstate.Reply{Code: e}
}

func paths(l ...string) zstate.Reply {
	return zstate.Reply{Paths: l}
}

// made and gone are the events of a znode that is created, and deleted.
func made(path string) []api.Event {
	return []api.Event{{Kind: api.Created, Path: path}, {Kind: api.Children, Path: parentOf(path)}}
}

func gone(path string) []api.Event {
	return []api.Event{{Kind: api.Deleted, Path: path}, {Kind: api.Children, Path: parentOf(path)}}
}

// parentOf is a path without its last name.
func parentOf(path string) string {
	return path[:max(strings.LastIndex(path, "/"), 1)]
}

func of(id, span, last int) lease.Lease {
	return lease.Lease{Id: id, Span: span, Last: last}
}

// short is anything as a line that can be read, however long it is.
func short(x any) string {
	s := strings.ToValidUTF8(fmt.Sprintf("%+v", x), "?")
	return s[:min(len(s), 1200)]
}

// alike tells whether two replies are the same.
func alike(a, b zstate.Reply) bool {
	return a.Code == b.Code && a.Session == b.Session && slices.Equal(a.Paths, b.Paths)
}

// known is all that a state tells, but its zxid.
func known(s *zstate.State) string {
	var b strings.Builder
	leases := s.Leases().All()
	fmt.Fprintf(&b, "%+v %+v", s.Tree().All(), leases)
	for _, x := range leases {
		n, r, is := s.Last(x.Id)
		fmt.Fprintf(&b, " %d: %d %d %d %q %v;", x.Id, n, r.Code, r.Session, r.Paths, is)
	}
	return b.String()
}

// picture is all that a state tells.
func picture(s *zstate.State) string {
	return fmt.Sprintf("%d %s %q", s.Zxid(), known(s), s.Pack())
}

// applied asks what an Apply answers, and that its zxid is the state's behind it.
func applied(t *testing.T, s *zstate.State, zxid int, x zstate.Txn, want zstate.Reply, events ...api.Event) {
	t.Helper()
	r, l := s.Apply(zxid, x)
	if !alike(r, want) || !slices.Equal(l, events) {
		t.Fatalf("P11.1: Apply(%d, %s) is %s, %s, not %s, %s", zxid, short(x), short(r), short(l), short(want), short(events))
	}
	if s.Zxid() != zxid {
		t.Fatalf("P11.1: behind Apply(%d, %s) Zxid is %d", zxid, short(x), s.Zxid())
	}
}

// failed asks that an Apply has a Code, and changes nothing but the zxid, which is one more.
func failed(t *testing.T, s *zstate.State, x zstate.Txn, want api.Errno) {
	t.Helper()
	was := known(s)
	applied(t, s, s.Zxid()+1, x, code(want))
	if is := known(s); is != was {
		t.Fatalf("P11.1: behind Apply(%d, %s), which is %d: %s, not %s", s.Zxid(), short(x), want, short(is), short(was))
	}
}

// refused asks that a zxid is refused, and that nothing is done.
func refused(t *testing.T, s *zstate.State, zxid int, x zstate.Txn) {
	t.Helper()
	was := picture(s)
	if r, l := s.Apply(zxid, x); !alike(r, code(api.ErrArg)) || len(l) != 0 {
		t.Fatalf("P11.1: Apply(%d, %s) behind %d is %s, %s", zxid, short(x), s.Zxid(), short(r), short(l))
	}
	if is := picture(s); is != was {
		t.Fatalf("P11.1: behind Apply(%d, %s), which was refused: %s, not %s", zxid, short(x), short(is), short(was))
	}
}

// last asks for the Number and the Reply of a session's last change.
func last(t *testing.T, s *zstate.State, session, number int, want zstate.Reply) {
	t.Helper()
	if n, r, is := s.Last(session); n != number || !alike(r, want) || !is {
		t.Fatalf("P11.2: Last(%d) is %d, %s, %v, not %d, %s", session, n, short(r), is, number, short(want))
	}
}

// noLast asks that there is no such session.
func noLast(t *testing.T, s *zstate.State, session int) {
	t.Helper()
	if n, r, is := s.Last(session); n != 0 || !alike(r, zstate.Reply{}) || is {
		t.Fatalf("P11.2: Last(%d) is %d, %s, %v", session, n, short(r), is)
	}
}

// hasPaths asks which znodes there are.
func hasPaths(t *testing.T, s *zstate.State, want ...string) {
	t.Helper()
	var l []string
	for _, z := range s.Tree().All() {
		l = append(l, z.Path)
	}
	if !slices.Equal(l, want) {
		t.Fatalf("P11.2: the tree has %s, not %s", short(l), short(want))
	}
}

// hasLeases asks which leases there are, and that each has a Last.
func hasLeases(t *testing.T, s *zstate.State, want ...lease.Lease) {
	t.Helper()
	if l := s.Leases().All(); !slices.Equal(l, want) {
		t.Fatalf("P11.2: the leases are %s, not %s", short(l), short(want))
	}
	for _, x := range want {
		if _, _, is := s.Last(x.Id); !is {
			t.Fatalf("P11.2: Last(%d) is false", x.Id)
		}
	}
}

// open is a state with sessions 1 to n, of a span of 10, and opened at time 5 each.
func open(t *testing.T, n int) *zstate.State {
	t.Helper()
	s := zstate.New()
	for k := range n {
		applied(t, s, k+1, opening(10, 5), zstate.Reply{Session: k + 1})
	}
	return s
}

// estates is a state of zxid 7: session 1 has /a/e, /a/g and /e, session 2 has /a/f, session 3 has none; /a and /b are nobody's.
func estates(t *testing.T) *zstate.State {
	t.Helper()
	s := open(t, 3)
	applied(t, s, 4, change(3, 1, create("/a"), create("/b")), paths("/a", "/b"), slices.Concat(made("/a"), made("/b"))...)
	applied(t, s, 5, change(1, 1, ephemeral("/e"), ephemeral("/a/g")), paths("/e", "/a/g"), slices.Concat(made("/e"), made("/a/g"))...)
	applied(t, s, 6, change(2, 5, ephemeral("/a/f")), paths("/a/f"), made("/a/f")...)
	applied(t, s, 7, change(1, 2, ephemeral("/a/e")), paths("/a/e"), made("/a/e")...)
	return s
}

func TestExamples(t *testing.T) {
	s := zstate.New()
	applied(t, s, 1, opening(10, 0), zstate.Reply{Session: 1})
	applied(t, s, 2, change(1, 1, create("/a")), paths("/a"), made("/a")...)
	applied(t, s, 3, change(1, 1, create("/a")), paths("/a"))
	refused(t, s, 3, change(1, 1, create("/a")))
	hasPaths(t, s, "/", "/a")
	hasLeases(t, s, of(1, 10, 0))
}

func TestNew(t *testing.T) {
	s := zstate.New()
	if s == nil || s.Zxid() != 0 {
		t.Fatal("P11.1: New")
	}
	if all := s.Tree().All(); !slices.Equal(all, []api.Znode{{Path: "/"}}) {
		t.Errorf("P11.1: the tree of New is %s", short(all))
	}
	hasLeases(t, s)
	for _, session := range []int{-1, 0, 1, 2, top, math.MaxInt, math.MinInt} {
		noLast(t, s, session)
	}
	was := picture(s)
	applied(t, s, 1, opening(1, 1), zstate.Reply{Session: 1})
	if is := picture(zstate.New()); is != was {
		t.Errorf("P11.1: another New is %s, not %s", short(is), short(was))
	}
}

func TestZxids(t *testing.T) {
	for _, zxid := range []int{1, 2, 1 << 32, top - 1, top} {
		applied(t, zstate.New(), zxid, opening(10, 0), zstate.Reply{Session: zxid})
	}
	all := []zstate.Txn{opening(10, 0), renewal(1, 9), closing(1), change(1, 3, create("/c")), change(1, 2), ending(1, 5), {}, {Kind: 6}}
	s := estates(t)
	for _, zxid := range []int{math.MinInt, -top, -1, 0, 1, 6, 7, top + 1, top + 2, math.MaxInt} {
		for _, x := range all {
			refused(t, s, zxid, x)
		}
	}
	for _, zxid := range []int{8, 9, 20, 1<<32 + 1, top - 1, top} {
		applied(t, s, zxid, renewal(1, 9), zstate.Reply{})
		for _, x := range all {
			refused(t, s, zxid, x)
			refused(t, s, zxid-1, x)
		}
	}
	for _, x := range all {
		refused(t, s, top+1, x)
		refused(t, zstate.New(), 0, x)
		refused(t, zstate.New(), -1, x)
		refused(t, zstate.New(), top+1, x)
		refused(t, zstate.New(), math.MinInt, x)
	}
}

// The zxid is the new one, whatever the Code, and so it is refused once more.
func TestZxidOfWhatFails(t *testing.T) {
	s := estates(t)
	for _, x := range []struct {
		t zstate.Txn
		e api.Errno
	}{{opening(0, 0), api.ErrArg}, {renewal(1, -1), api.ErrArg}, {renewal(9, 1), api.ErrLeaseNone}, {closing(9), api.ErrLeaseNone}, {change(9, 1), api.ErrLeaseNone}, {change(1, 1), api.ErrArg}, {ending(9, 0), api.ErrLeaseNone}, {ending(1, 0), api.ErrArg}, {zstate.Txn{}, api.ErrArg}, {zstate.Txn{Kind: 6, Session: 1}, api.ErrArg}} {
		failed(t, s, x.t, x.e)
		refused(t, s, s.Zxid(), renewal(1, 9))
	}
	applied(t, s, 100, change(1, 3, create("/a")), code(api.ErrTreeExists))
	refused(t, s, 100, renewal(1, 9))
}

func TestKinds(t *testing.T) {
	s := estates(t)
	for _, kind := range []int{0, 6, 7, 255, 256 + 1, 256 + 4, 1<<32 + 1, 1<<32 + 4, math.MaxInt, -1, -2, -3, -4, -5, math.MinInt, math.MinInt + 4} {
		failed(t, s, zstate.Txn{Kind: kind, Session: 1, Number: 9, Span: 10, Now: 5, L: []api.Change{create("/c")}}, api.ErrArg)
		failed(t, s, zstate.Txn{Kind: kind, Session: 9}, api.ErrArg)
	}
	full := zstate.Txn{Session: 1, Number: 9, Span: 10, Now: 5, L: []api.Change{create("/c")}}
	for kind, want := range []zstate.Reply{1: {Session: 50}, 2: {}, 3: {}, 4: paths("/c"), 5: {}} {
		full.Kind = kind
		if r, _ := estates(t).Apply(50, full); kind > 0 && !alike(r, want) {
			t.Errorf("P11.1: of kind %d the reply is %s", kind, short(r))
		}
	}
}

func TestOpen(t *testing.T) {
	zxid := 0
	for _, span := range []int{1, 2, 10, mostSpan - 1, mostSpan} {
		for _, now := range []int{0, 1, 5, api.MaxClock - 1, api.MaxClock} {
			zxid += 3
			s := zstate.New()
			applied(t, s, zxid, opening(span, now), zstate.Reply{Session: zxid})
			hasLeases(t, s, of(zxid, span, now))
			hasPaths(t, s, "/")
			last(t, s, zxid, 0, zstate.Reply{})
		}
	}
	s := open(t, 1)
	for _, span := range []int{0, -1, math.MinInt, mostSpan + 1, mostSpan + 2, math.MaxInt} {
		failed(t, s, opening(span, 0), api.ErrArg)
		failed(t, s, opening(span, -1), api.ErrArg)
		noLast(t, s, s.Zxid())
	}
	for _, now := range []int{-1, math.MinInt, api.MaxClock + 1, math.MaxInt} {
		failed(t, s, opening(10, now), api.ErrArg)
		noLast(t, s, s.Zxid())
	}
	applied(t, s, 50, zstate.Txn{Kind: 1, Session: 1, Number: -5, Span: 7, Now: 6, L: checks(7)}, zstate.Reply{Session: 50}) // what is not of this kind is not asked for
	hasLeases(t, s, of(1, 10, 5), of(50, 7, 6))
	last(t, s, 1, 0, zstate.Reply{})
}

func TestRoomForSessions(t *testing.T) {
	s := open(t, sessions-1)
	applied(t, s, 200, opening(10, 5), zstate.Reply{Session: 200})
	failed(t, s, opening(10, 5), api.ErrArg)
	failed(t, s, opening(10, 5), api.ErrArg)
	if l := s.Leases().All(); len(l) != sessions {
		t.Errorf("P11.1: there are %d leases", len(l))
	}
	applied(t, s, 300, closing(40), zstate.Reply{})
	applied(t, s, 301, opening(10, 5), zstate.Reply{Session: 301})
	failed(t, s, opening(10, 5), api.ErrArg)
	applied(t, s, 310, ending(301, 5), zstate.Reply{})
	applied(t, s, 311, opening(10, 5), zstate.Reply{Session: 311})
	noLast(t, s, 301)
	last(t, s, 311, 0, zstate.Reply{})
}

func TestRenew(t *testing.T) {
	s := open(t, 2)
	for zxid, x := range []struct{ now, last int }{{5, 5}, {6, 6}, {6, 6}, {0, 6}, {5, 6}, {100, 100}, {api.MaxClock, api.MaxClock}, {0, api.MaxClock}} {
		applied(t, s, 10+zxid, renewal(1, x.now), zstate.Reply{})
		hasLeases(t, s, of(1, 10, x.last), of(2, 10, 5))
	}
	for _, now := range []int{-1, math.MinInt, api.MaxClock + 1, math.MaxInt} {
		failed(t, s, renewal(2, now), api.ErrArg)
		failed(t, s, renewal(9, now), api.ErrArg) // named first
	}
	for _, session := range []int{0, -1, 3, 9, 10, top, math.MaxInt, math.MinInt} {
		failed(t, s, renewal(session, 6), api.ErrLeaseNone)
		noLast(t, s, session)
	}
	applied(t, s, 100, zstate.Txn{Kind: 2, Session: 2, Number: -5, Span: -1, Now: 6, L: checks(7)}, zstate.Reply{})
	hasLeases(t, s, of(1, 10, api.MaxClock), of(2, 10, 6))
	hasPaths(t, s, "/")
}

// leaves asks what is left behind the end of session 1 of estates at zxid 20.
func leaves(t *testing.T, x zstate.Txn) {
	t.Helper()
	s := estates(t)
	applied(t, s, 20, x, zstate.Reply{}, slices.Concat(gone("/a/e"), gone("/a/g"), gone("/e"))...)
	want := []api.Znode{
		{Path: "/", Next: 3, Stat: api.Stat{Children: 20, Kids: 4}},
		{Path: "/a", Next: 3, Stat: api.Stat{Created: 4, Changed: 4, Children: 20, Kids: 5}},
		{Path: "/a/f", Stat: api.Stat{Created: 6, Changed: 6, Children: 6, Owner: 2}},
		{Path: "/b", Stat: api.Stat{Created: 4, Changed: 4, Children: 4}},
	}
	if all := s.Tree().All(); !slices.Equal(all, want) {
		t.Errorf("P11.1: behind %s the tree is %s, not %s", short(x), short(all), short(want))
	}
	hasLeases(t, s, of(2, 10, 5), of(3, 10, 5))
	noLast(t, s, 1)
	last(t, s, 2, 5, paths("/a/f"))
	last(t, s, 3, 1, paths("/a", "/b"))
	for _, y := range []zstate.Txn{closing(1), ending(1, 5), renewal(1, 5), change(1, 2), change(1, 3, create("/z"))} {
		failed(t, s, y, api.ErrLeaseNone)
	}
	refused(t, s, 1, opening(10, 5)) // it is opened no more by its number
	applied(t, s, 40, zstate.Txn{Kind: 1, Session: 1, Span: 10}, zstate.Reply{Session: 40})
	noLast(t, s, 1)
	applied(t, s, 41, closing(3), zstate.Reply{})
	applied(t, s, 42, closing(2), zstate.Reply{}, gone("/a/f")...)
	hasPaths(t, s, "/", "/a", "/b")
	hasLeases(t, s, of(40, 10, 0))
}

func TestClose(t *testing.T) {
	leaves(t, closing(1))
	leaves(t, zstate.Txn{Kind: 3, Session: 1, Number: -5, Span: -1, Now: -1, L: checks(7)})
	s := estates(t)
	for _, session := range []int{0, -1, 4, 5, top, math.MaxInt, math.MinInt} {
		failed(t, s, closing(session), api.ErrLeaseNone)
	}
	failed(t, zstate.New(), closing(1), api.ErrLeaseNone)
}

func TestEnd(t *testing.T) {
	leaves(t, ending(1, 5))
	leaves(t, zstate.Txn{Kind: 5, Session: 1, Number: -5, Span: -1, Now: 5, L: checks(7)})
	s := estates(t)
	for _, session := range []int{0, -1, 4, 5, top, math.MaxInt, math.MinInt} {
		failed(t, s, ending(session, 5), api.ErrLeaseNone)
		failed(t, s, ending(session, 0), api.ErrLeaseNone)
		failed(t, s, ending(session, -1), api.ErrLeaseNone)
	}
	for _, now := range []int{0, 4, 6, 15, 16, 1<<32 + 5, api.MaxClock, -1, math.MinInt, math.MaxInt} {
		failed(t, s, ending(1, now), api.ErrArg)
	}
	applied(t, s, 100, renewal(1, 8), zstate.Reply{})
	failed(t, s, ending(1, 5), api.ErrArg)
	applied(t, s, 110, renewal(1, 6), zstate.Reply{})
	failed(t, s, ending(1, 6), api.ErrArg)
	applied(t, s, 120, ending(1, 8), zstate.Reply{}, slices.Concat(gone("/a/e"), gone("/a/g"), gone("/e"))...)
	applied(t, s, 121, ending(3, 5), zstate.Reply{})
	hasLeases(t, s, of(2, 10, 5))
}

// A session's znodes go with it alone, though they were given a name that another's had.
func TestEndOfManySessions(t *testing.T) {
	s := open(t, 3)
	applied(t, s, 10, change(1, 1, ephemeral("/x")), paths("/x"), made("/x")...)
	applied(t, s, 11, change(2, 1, remove("/x"), ephemeral("/x")), paths("/x", "/x"), slices.Concat(gone("/x"), made("/x"))...)
	applied(t, s, 12, closing(1), zstate.Reply{})
	hasPaths(t, s, "/", "/x")
	applied(t, s, 13, change(3, 1, remove("/x"), create("/x")), paths("/x", "/x"), slices.Concat(gone("/x"), made("/x"))...)
	applied(t, s, 14, closing(2), zstate.Reply{})
	applied(t, s, 15, closing(3), zstate.Reply{})
	hasPaths(t, s, "/", "/x")
	hasLeases(t, s)
}

// Where there is no such session, nothing else is asked.
func TestChangeForNobody(t *testing.T) {
	s := estates(t)
	for _, session := range []int{0, -1, 4, 5, 7, top, math.MaxInt, math.MinInt} {
		for _, number := range []int{-1, 0, 1, 2, top, top + 1} {
			failed(t, s, change(session, number), api.ErrLeaseNone)
			failed(t, s, change(session, number, create("/c")), api.ErrLeaseNone)
			failed(t, s, change(session, number, checks(7)...), api.ErrLeaseNone)
			failed(t, s, change(session, number, api.Change{}), api.ErrLeaseNone)
		}
		noLast(t, s, session)
	}
}

func TestNumbers(t *testing.T) {
	s := open(t, 1)
	for _, number := range []int{0, -1, -2, math.MinInt, top + 1, top + 2, math.MaxInt} {
		failed(t, s, change(1, number, create("/a")), api.ErrArg)
		failed(t, s, change(1, number), api.ErrArg)
	}
	last(t, s, 1, 0, zstate.Reply{})
	zxid := 100
	before := 0
	for _, number := range []int{1, 2, 3, 7, 1<<32 + 7, top - 1, top} {
		path := fmt.Sprintf("/n%d", number)
		applied(t, s, zxid, change(1, number, create(path)), paths(path), made(path)...)
		last(t, s, 1, number, paths(path))
		for _, lesser := range []int{before, number - 1, 0, -1, math.MinInt} {
			if lesser < number {
				failed(t, s, change(1, lesser, create("/no")), api.ErrArg)
			}
		}
		failed(t, s, change(1, top+1, create("/no")), api.ErrArg)
		last(t, s, 1, number, paths(path))
		zxid, before = zxid+100, number
	}
	hasPaths(t, s, "/", "/n1", "/n2", "/n3", fmt.Sprint("/n", 1<<32+7), fmt.Sprint("/n", top-1), fmt.Sprint("/n", top), "/n7")
}

func TestHowManyChanges(t *testing.T) {
	s := open(t, 1)
	applied(t, s, 10, change(1, 1), paths())
	last(t, s, 1, 1, paths())
	for n := range 7 {
		applied(t, s, 20+n, change(1, 2+n, checks(n)...), zstate.Reply{Paths: slices.Repeat([]string{"/"}, n)})
	}
	last(t, s, 1, 8, paths("/", "/", "/", "/", "/", "/"))
	for _, n := range []int{7, 8, 255, 256, 256 + 6, 1000} {
		failed(t, s, change(1, 9, checks(n)...), api.ErrArg)
	}
	applied(t, s, 100, change(1, 9, create("/a"), create("/a/b"), set("/a", "x"), check("/a"), remove("/a/b"), sequence("/a/n-")), paths("/a", "/a/b", "/a", "/a", "/a/b", "/a/n-0000000001"),
		slices.Concat(made("/a"), made("/a/b"), []api.Event{{Kind: api.Changed, Path: "/a"}}, gone("/a/b"), made("/a/n-0000000001"))...)
	hasPaths(t, s, "/", "/a", "/a/n-0000000001")
}

// What was done for a Number is not done again, whatever is asked for.
func TestTheLastNumberOnceMore(t *testing.T) {
	s := open(t, 2)
	applied(t, s, 10, change(1, 4, sequence("/n-"), ephemeral("/e")), paths("/n-0000000000", "/e"), slices.Concat(made("/n-0000000000"), made("/e"))...)
	was := known(s)
	for k, x := range []zstate.Txn{
		change(1, 4, sequence("/n-"), ephemeral("/e")),
		change(1, 4, sequence("/n-")),
		change(1, 4, create("/other")),
		change(1, 4),
		change(1, 4, remove("/e")),
		change(1, 4, api.Change{Kind: 9}),
		change(1, 4, create("/e")),
		change(1, 4, checks(6)...),
		{Kind: 4, Session: 1, Number: 4, Span: -1, Now: -1},
	} {
		applied(t, s, 20+k, x, paths("/n-0000000000", "/e"))
		if is := known(s); is != was {
			t.Fatalf("P11.5: behind %s: %s, not %s", short(x), short(is), short(was))
		}
	}
	failed(t, s, change(1, 4, checks(7)...), api.ErrArg) // named ahead of it
	failed(t, s, change(1, 3, create("/other")), api.ErrArg)
	applied(t, s, 100, change(2, 4, create("/other")), paths("/other"), made("/other")...)
	applied(t, s, 101, change(1, 5, create("/third")), paths("/third"), made("/third")...)
	failed(t, s, change(1, 4, sequence("/n-"), ephemeral("/e")), api.ErrArg)
	hasPaths(t, s, "/", "/e", "/n-0000000000", "/other", "/third")
}

func TestAChangeThatIsRefused(t *testing.T) {
	for _, x := range []struct {
		e api.Errno
		l []api.Change
	}{
		{api.ErrArg, []api.Change{{}}},
		{api.ErrArg, []api.Change{remove("/")}},
		{api.ErrNameForm, []api.Change{create("/x"), create("no path")}},
		{api.ErrTreeNone, []api.Change{set("/none", "")}},
		{api.ErrTreeExists, []api.Change{create("/x"), create("/a")}},
		{api.ErrTreeVersion, []api.Change{{Kind: api.Check, Path: "/a", Version: 7}}},
		{api.ErrTreeParent, []api.Change{create("/none/x")}},
		{api.ErrTreeChildren, []api.Change{ephemeral("/x"), remove("/a")}},
		{api.ErrTreeOwned, []api.Change{create("/e/x")}},
		{api.ErrTreeLong, []api.Change{{Kind: api.Create, Path: "/x", Data: strings.Repeat("x", api.MaxText+1)}}},
	} {
		s := estates(t)
		tree := s.Tree().All()
		for n := range 3 { // its Number is the last one, and answered alike
			applied(t, s, 20+n, change(1, 3, x.l...), code(x.e))
			last(t, s, 1, 3, code(x.e))
		}
		applied(t, s, 30, change(1, 3, create("/good")), code(x.e))
		failed(t, s, change(1, 2), api.ErrArg)
		failed(t, s, change(1, 3, checks(7)...), api.ErrArg)
		if all := s.Tree().All(); !slices.Equal(all, tree) {
			t.Errorf("P11.1: behind %s the tree is %s, not %s", short(x.l), short(all), short(tree))
		}
		last(t, s, 1, 3, code(x.e))
		last(t, s, 2, 5, paths("/a/f"))
		applied(t, s, 40, change(1, 4, create("/good")), paths("/good"), made("/good")...)
		last(t, s, 1, 4, paths("/good"))
	}
}

func TestAFullTree(t *testing.T) {
	s := open(t, 1)
	for n := range api.MaxNodes - 1 {
		path := fmt.Sprint("/n", n)
		applied(t, s, 10+n, change(1, 1+n, create(path)), paths(path), made(path)...)
	}
	applied(t, s, 1000, change(1, 1000, create("/x")), code(api.ErrTreeFull))
	applied(t, s, 1001, change(1, 1001, remove("/n0"), create("/x")), paths("/n0", "/x"), slices.Concat(gone("/n0"), made("/x"))...)
	applied(t, s, 1002, change(1, 1000, create("/x")), code(api.ErrArg))
}

// Numbers and Replies are each session's own.
func TestLast(t *testing.T) {
	s := open(t, 3)
	for session := 1; session <= 3; session++ {
		last(t, s, session, 0, zstate.Reply{})
	}
	applied(t, s, 10, change(2, 7, create("/a")), paths("/a"), made("/a")...)
	last(t, s, 1, 0, zstate.Reply{})
	last(t, s, 2, 7, paths("/a"))
	last(t, s, 3, 0, zstate.Reply{})
	applied(t, s, 11, change(1, 7, create("/a")), code(api.ErrTreeExists))
	last(t, s, 1, 7, code(api.ErrTreeExists))
	last(t, s, 2, 7, paths("/a"))
	applied(t, s, 12, change(3, 1), paths())
	last(t, s, 3, 1, paths())
	applied(t, s, 13, renewal(2, 9), zstate.Reply{})
	failed(t, s, change(2, 6), api.ErrArg)
	failed(t, s, change(2, 8, checks(7)...), api.ErrArg)
	last(t, s, 2, 7, paths("/a"))
	applied(t, s, 20, change(2, 8, set("/a", "x")), paths("/a"), api.Event{Kind: api.Changed, Path: "/a"})
	last(t, s, 2, 8, paths("/a"))
	for _, session := range []int{0, -1, 4, 10, 20, top, math.MaxInt, math.MinInt} {
		noLast(t, s, session)
	}
	applied(t, s, 21, closing(2), zstate.Reply{})
	noLast(t, s, 2)
	last(t, s, 1, 7, code(api.ErrTreeExists))
	last(t, s, 3, 1, paths())
}

// stays asks that a state is what it was.
func stays(t *testing.T, s *zstate.State, what, was string) {
	t.Helper()
	if is := picture(s); is != was {
		t.Fatalf("R6: %s: %s, not %s", what, short(is), short(was))
	}
}

func TestWhatIsToldIsACopy(t *testing.T) {
	s := estates(t)
	was := picture(s)
	tree := s.Tree()
	if _, _, e := tree.Do(9, 1, []api.Change{create("/new"), set("/a", "x"), remove("/b")}); e != api.OK {
		t.Fatal("P11.2: Tree:", e)
	}
	tree.End(10, 1)
	stays(t, s, "behind a Do and an End of the Tree that was told", was)
	leases := s.Leases()
	if leases.Open(9, 9, 9) != api.OK || leases.Renew(2, 50) != api.OK || leases.Close(1) != api.OK {
		t.Fatal("P11.2: Leases")
	}
	stays(t, s, "behind calls of the Leases that were told", was)
	packed := s.Pack()
	clear(packed)
	stays(t, s, "behind what is written into Pack", was)

	tree, leases = s.Tree(), s.Leases()
	znodes, all := tree.All(), leases.All()
	applied(t, s, 20, change(2, 6, create("/c"), set("/a", "y")), paths("/c", "/a"), append(made("/c"), api.Event{Kind: api.Changed, Path: "/a"})...)
	applied(t, s, 21, renewal(2, 60), zstate.Reply{})
	applied(t, s, 22, opening(10, 60), zstate.Reply{Session: 22})
	s.Apply(23, closing(1))
	if !slices.Equal(tree.All(), znodes) || !slices.Equal(leases.All(), all) {
		t.Error("P11.2: what was told goes on with the state")
	}
}

func TestPathsThatAreToldAreCopies(t *testing.T) {
	s := open(t, 1)
	x := change(1, 1, create("/a"), create("/b"))
	first, events := s.Apply(2, x)
	was := picture(s)
	first.Paths[0], events[0].Path = "/zz", "/zz"
	_ = append(first.Paths[:1], "/zz")
	stays(t, s, "behind what is written into a Reply", was)
	last(t, s, 1, 1, paths("/a", "/b"))
	_, second, _ := s.Last(1)
	_, third, _ := s.Last(1)
	second.Paths[1] = "/zz"
	last(t, s, 1, 1, paths("/a", "/b"))
	if third.Paths[1] != "/b" {
		t.Error("R6: two of Last share their Paths")
	}
	again, _ := s.Apply(3, x)
	again.Paths[0] = "/zz"
	clear(again.Paths)
	applied(t, s, 4, x, paths("/a", "/b"))
	c := s.Clone()
	_, told, _ := c.Last(1)
	clear(told.Paths)
	more, _ := c.Apply(5, x)
	clear(more.Paths)
	last(t, s, 1, 1, paths("/a", "/b"))
	last(t, c, 1, 1, paths("/a", "/b"))
}

func TestWhatIsGivenToApplyStays(t *testing.T) {
	s := open(t, 1)
	l := append(make([]api.Change, 0, 4), create("/a"), sequence("/a/n-"), set("/a", "x"))
	was := slices.Clone(l)
	applied(t, s, 2, change(1, 1, l...), paths("/a", "/a/n-0000000000", "/a"), append(slices.Concat(made("/a"), made("/a/n-0000000000")), api.Event{Kind: api.Changed, Path: "/a"})...)
	if !slices.Equal(l, was) || l[:4][3] != (api.Change{}) {
		t.Errorf("R5: what Apply was given is %s, not %s", short(l[:4]), short(was))
	}
	pictured := picture(s)
	clear(l)
	stays(t, s, "behind what is written into the changes", pictured)
}

func TestClone(t *testing.T) {
	all := []zstate.Txn{opening(10, 5), renewal(1, 9), closing(1), change(1, 3, create("/c"), set("/a", "x"), remove("/e")), change(3, 2, create("/b")), ending(2, 5), change(3, 9), {Kind: 6}}
	s := estates(t)
	was := picture(s)
	for _, x := range all {
		a := estates(t)
		c := a.Clone()
		stays(t, c, "a Clone", was)
		a.Apply(20, x)
		stays(t, c, fmt.Sprint("the Clone, behind ", short(x)), was)
		c = s.Clone()
		c.Apply(20, x)
		stays(t, s, fmt.Sprint("behind ", short(x), " at the Clone"), was)
		stays(t, c, "the Clone goes on as the other does", picture(a))
	}
	c := s.Clone()
	applied(t, s, 20, change(1, 3, create("/s")), paths("/s"), made("/s")...)
	applied(t, c, 30, change(1, 4, create("/c")), paths("/c"), made("/c")...)
	last(t, s, 1, 3, paths("/s"))
	last(t, c, 1, 4, paths("/c"))
	n := zstate.New().Clone()
	stays(t, n, "a Clone of New", picture(zstate.New()))
	applied(t, n, 1, opening(10, 5), zstate.Reply{Session: 1})
}

// Trees and leases that are told can be taken on from, as any.
func TestWhatIsToldCanBeUsed(t *testing.T) {
	s := estates(t)
	tree, e := ztree.Load(s.Tree().All())
	leases, f := lease.Load(s.Leases().All())
	if e != api.OK || f != api.OK || !slices.Equal(tree.Owned(1), []string{"/a/e", "/a/g", "/e"}) || !slices.Equal(leases.Ended(16), []int{1, 2, 3}) {
		t.Errorf("P11.2: %d, %d", e, f)
	}
}
