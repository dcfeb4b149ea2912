package zstate_test

import (
	"fmt"
	"math"
	"slices"
	"strings"
	"testing"

	"harpsichord/api"
	"harpsichord/zstate"
)

// packed is a state's Pack, which is as it may be.
func packed(t *testing.T, s *zstate.State) []string {
	t.Helper()
	l := s.Pack()
	if len(l) > 2*api.MaxNodes+300 {
		t.Fatalf("P11.4: there are %d records", len(l))
	}
	for k, r := range l {
		if len(r) > api.MaxRecord {
			t.Fatalf("P11.4: record %d has %d bytes", k, len(r))
		}
	}
	return l
}

// loaded is the state that Load makes of a state's Pack, which is the same.
func loaded(t *testing.T, s *zstate.State) *zstate.State {
	t.Helper()
	l := packed(t, s)
	was := slices.Clone(l)
	u, e := zstate.Load(l)
	if u == nil || e != api.OK {
		t.Fatalf("P11.4: Load(%s) is %v, %d", short(l), u != nil, e)
	}
	if is, was := picture(u), picture(s); is != was {
		t.Fatalf("P11.5: Load of Pack is %s, not %s", short(is), short(was))
	}
	if !slices.Equal(l, was) {
		t.Fatalf("R5: what Load was given is %s", short(l))
	}
	return u
}

// notLoaded asks that a list is no state's.
func notLoaded(t *testing.T, what string, l []string) {
	t.Helper()
	if s, e := zstate.Load(l); s != nil || e != api.ErrStateForm {
		t.Fatalf("P11.4: %s: Load is %v, %d", what, s != nil, e)
	}
}

// another asks that of a list there is no state, or one that can be used; it tells which.
func another(t *testing.T, what string, l []string) bool {
	t.Helper()
	s, e := zstate.Load(l)
	if e != api.OK {
		if s != nil || e != api.ErrStateForm {
			t.Fatalf("P11.4: %s: Load is %v, %d", what, s != nil, e)
		}
		return false
	}
	if s == nil {
		t.Fatalf("P11.4: %s: Load is no state", what)
	}
	use(t, s)
	return true
}

// use asks that a state goes on as any does.
func use(t *testing.T, s *zstate.State) {
	t.Helper()
	u := loaded(t, s)
	c := s.Clone()
	for _, x := range s.Leases().All() {
		n, r, is := s.Last(x.Id)
		if !is || n == 0 && !alike(r, zstate.Reply{}) || r.Code != api.OK && len(r.Paths) > 0 {
			t.Fatalf("P11.4: Last(%d) is %d, %s, %v", x.Id, n, short(r), is)
		}
	}
	both := func(x zstate.Txn) {
		t.Helper()
		zxid := s.Zxid() + 1
		r, l := s.Apply(zxid, x)
		for _, other := range []*zstate.State{u, c} {
			if r2, l2 := other.Apply(zxid, x); !alike(r, r2) || !slices.Equal(l, l2) {
				t.Fatalf("P11.5: Apply(%d, %s) is %s, %s, and %s, %s", zxid, short(x), short(r), short(l), short(r2), short(l2))
			}
		}
	}
	both(opening(10, 5))
	for _, x := range s.Leases().All() {
		n, _, _ := s.Last(x.Id)
		both(change(x.Id, n, create("/x")))
		both(change(x.Id, n+1, sequence("/x"), ephemeral(fmt.Sprint("/", x.Id))))
		both(renewal(x.Id, x.Last))
		both(ending(x.Id, x.Last))
	}
	if is, was := picture(u), picture(s); is != was || picture(c) != was {
		t.Fatalf("P11.5: what was loaded went on to %s, not %s", short(is), short(was))
	}
	loaded(t, s)
}

// wide is a name as long as can be.
func wide(n int) string {
	return fmt.Sprintf("%0*d", api.MaxName, n)
}

// deep is a path of so many names, each as long as can be.
func deep(names int) string {
	return strings.Repeat("/"+wide(0), names)
}

// vast is a state with as many znodes, leases, and last Replies as there may be, and each as long as can be.
func vast(t *testing.T) *zstate.State {
	t.Helper()
	data := long(api.MaxText)
	s := zstate.New()
	for n := range sessions {
		applied(t, s, top-1000+n, opening(mostSpan-n, api.MaxClock-n), zstate.Reply{Session: top - 1000 + n})
	}
	first := top - 1000
	zxid, number := top-800, 0
	do := func(l ...api.Change) {
		t.Helper()
		zxid, number = zxid+1, number+1
		if r, _ := s.Apply(zxid, change(first, number, l...)); r.Code != api.OK {
			t.Fatalf("P11.1: Apply is %s", short(r))
		}
	}
	do(set("/", data))
	for names := 1; names < api.MaxDepth; names++ {
		do(api.Change{Kind: api.Create, Path: deep(names), Data: data})
	}
	for n := range api.MaxNodes - api.MaxDepth {
		do(api.Change{Kind: api.Create, Path: deep(api.MaxDepth-1) + "/" + wide(n), Data: data, Ephemeral: n%2 == 0})
	}
	all := slices.Repeat([]api.Change{check(deep(api.MaxDepth))}, 6)
	for n := range sessions {
		applied(t, s, top-100+n, change(first+n, top-n, all...), zstate.Reply{Paths: slices.Repeat([]string{deep(api.MaxDepth)}, 6)})
	}
	return s
}

func TestPackOfAsMuchAsThereMayBe(t *testing.T) {
	s := vast(t)
	if z, l := s.Tree().All(), s.Leases().All(); len(z) != api.MaxNodes || len(l) != sessions {
		t.Fatalf("%d znodes, %d leases", len(z), len(l))
	}
	u := loaded(t, s)
	for _, x := range []*zstate.State{s, u} {
		refused(t, x, top-1, opening(10, 5))
		applied(t, x, top, change(top-1000, top, create("/x")), zstate.Reply{Paths: slices.Repeat([]string{deep(api.MaxDepth)}, 6)})
		refused(t, x, top, opening(10, 5))
	}
	if picture(s) != picture(u) {
		t.Error("P11.5: what was loaded goes on otherwise")
	}
}

func TestLoad(t *testing.T) {
	for _, s := range []*zstate.State{zstate.New(), open(t, 1), open(t, sessions), estates(t)} {
		use(t, loaded(t, s))
	}
	s := zstate.New()
	s.Apply(top, zstate.Txn{})
	loaded(t, s)
	s = estates(t)
	applied(t, s, 20, change(1, 3, create("/a")), code(api.ErrTreeExists))
	applied(t, s, 21, change(3, 4), paths())
	applied(t, s, 22, change(2, top, set("/a", "x\x00\xff"), check("/b")), paths("/a", "/b"), api.Event{Kind: api.Changed, Path: "/a"})
	applied(t, s, 23, opening(7, 8), zstate.Reply{Session: 23})
	u := loaded(t, s)
	last(t, u, 1, 3, code(api.ErrTreeExists))
	last(t, u, 3, 4, paths())
	last(t, u, 2, top, paths("/a", "/b"))
	last(t, u, 23, 0, zstate.Reply{})
	noLast(t, u, 4)
	applied(t, u, 24, change(1, 3, create("/c")), code(api.ErrTreeExists))
	applied(t, u, 25, change(2, top, create("/c")), paths("/a", "/b"))
	failed(t, u, change(1, 2), api.ErrArg)
	applied(t, u, 30, change(23, 1, create("/c")), paths("/c"), made("/c")...)
	applied(t, u, 31, closing(1), zstate.Reply{}, slices.Concat(gone("/a/e"), gone("/a/g"), gone("/e"))...)
	refused(t, u, 31, opening(10, 5))
	use(t, u)
	if s.Zxid() != 23 {
		t.Error("R6: what was loaded is not of its own")
	}
}

// Where a record is missing, or there is one too many.
func TestLoadOfOtherCounts(t *testing.T) {
	notLoaded(t, "no records", nil)
	notLoaded(t, "no records", []string{})
	for _, s := range []*zstate.State{zstate.New(), open(t, 2), estates(t), vast(t)} {
		l := packed(t, s)
		for k := range l {
			notLoaded(t, "one less", slices.Delete(slices.Clone(l), k, k+1))
			notLoaded(t, "one twice", slices.Insert(slices.Clone(l), k, l[k]))
			notLoaded(t, "the first ones", l[:k])
			notLoaded(t, "the last ones", l[k+1:])
			notLoaded(t, "one more", append(slices.Clone(l), l[k]))
			notLoaded(t, "an empty one more", slices.Insert(slices.Clone(l), k, ""))
		}
		notLoaded(t, "all twice", append(slices.Clone(l), l...))
		notLoaded(t, "an empty one more", append(slices.Clone(l), ""))
	}
	three := packed(t, open(t, 3))
	notLoaded(t, "one more that would rise", append(packed(t, open(t, 2)), three[len(three)-1]))
	notLoaded(t, "one text", []string{"x"})
	notLoaded(t, "an empty record", []string{""})
	notLoaded(t, "empty records", make([]string, 301))
	notLoaded(t, "a very long one", []string{long(1 << 20)})
	notLoaded(t, "very many", slices.Repeat([]string{zstate.New().Pack()[0]}, 5000))
}

// Where as many records are there, but others.
func TestLoadOfOtherOrders(t *testing.T) {
	l := packed(t, estates(t))
	for k := range l {
		for other := range l {
			if k != other {
				turned, twice := slices.Clone(l), slices.Clone(l)
				turned[k], turned[other] = turned[other], turned[k]
				notLoaded(t, fmt.Sprintf("%d and %d turned", k, other), turned)
				twice[k] = twice[other]
				notLoaded(t, fmt.Sprintf("%d in place of %d", other, k), twice)
			}
		}
	}
}

func TestLoadOfRecordsThatAreCutOff(t *testing.T) {
	s := estates(t)
	applied(t, s, 20, change(1, 3, create("/a")), code(api.ErrTreeExists))
	l := packed(t, s)
	for k, r := range l {
		for n := range len(r) {
			cut := slices.Clone(l)
			cut[k] = r[:n]
			notLoaded(t, fmt.Sprintf("%d cut off behind %d", k, n), cut)
		}
		for _, more := range []string{"\x00", "\x01", "x", r, long(api.MaxRecord)} {
			on := slices.Clone(l)
			on[k] = r + more
			notLoaded(t, fmt.Sprintf("%d with more behind it", k), on)
		}
	}
}

func TestLoadOfTurnedBytes(t *testing.T) {
	s := estates(t)
	applied(t, s, 20, change(1, 3, create("/a")), code(api.ErrTreeExists))
	applied(t, s, 21, opening(7, 8), zstate.Reply{Session: 21})
	l := packed(t, s)
	none, some := 0, 0
	for k, r := range l {
		for at := range len(r) {
			for _, by := range []byte{1, 2, 4, 8, 16, 32, 64, 128, 255, 3, r[at]} {
				turned := slices.Clone(l)
				turned[k] = r[:at] + string([]byte{r[at] ^ by}) + r[at+1:]
				if another(t, fmt.Sprintf("record %d, byte %d by %d", k, at, by), turned) {
					some++
				} else {
					none++
				}
			}
		}
	}
	if none < 100 || some < 100 {
		t.Errorf("%d were refused, %d were not", none, some)
	}
}

// What was last done without a Number, or with an error and paths, can't be.
func TestLoadOfRepliesThatCannotBe(t *testing.T) {
	s := open(t, 1)
	fresh := packed(t, s)
	applied(t, s, 2, change(1, 1, checks(6)...), paths("/", "/", "/", "/", "/", "/"))
	done := packed(t, s)
	applied(t, s, 3, change(1, 2, create("/")), code(api.ErrTreeExists))
	refusal := packed(t, s)
	at := len(fresh) - 1
	mixed := func(number, reply string) []string {
		const first, width = 24, 8 // where a lease's record has the Number
		l := slices.Clone(fresh)
		l[at] = reply[:first] + number[first:first+width] + reply[first+width:]
		return l
	}
	notLoaded(t, "paths without a Number", mixed(fresh[at], done[at]))
	notLoaded(t, "an error without a Number", mixed(fresh[at], refusal[at]))
	for _, l := range [][]string{mixed(done[at], refusal[at]), mixed(refusal[at], done[at]), mixed(done[at], fresh[at]), mixed(fresh[at], fresh[at])} {
		if !another(t, "a Reply of another Number", l) {
			t.Error("P11.4: a Reply of another Number is refused")
		}
	}
	l := slices.Clone(done)
	l[at] = l[at][:32] + "\x51" + l[at][33:]
	notLoaded(t, "an error with paths", l)
	for _, many := range []int{0, 1, 5, 7, 8, 255} {
		l := slices.Clone(done)
		l[at] = l[at][:33] + string([]byte{byte(many)}) + l[at][34:]
		notLoaded(t, fmt.Sprint(many, " paths"), l)
	}
	l = slices.Clone(done)
	l[at] = l[at][:33] + "\x07" + l[at][34:] + "\x00\x01/"
	notLoaded(t, "7 paths", l)
	l[at] = l[at][:33] + "\x06" + strings.Repeat("\x04\x00"+long(api.MaxText), 6)
	notLoaded(t, "paths in more than MaxRecord bytes", l)
}

// What the layers below refuse is no state.
func TestLoadOfTreesAndLeasesThatAreNone(t *testing.T) {
	s := estates(t)
	l := packed(t, s)
	none := func(what string, at int, from, to string) {
		t.Helper()
		x := slices.Clone(l)
		x[at] = strings.Replace(x[at], from, to, 1)
		if x[at] == l[at] {
			t.Fatalf("%s: record %d is %q", what, at, l[at])
		}
		notLoaded(t, what, x)
	}
	none("another root", 1, "/", "x")
	none("no path", 2, "/a", "/ ")
	none("no path", 2, "/a", "//")
	none("no rising path", 4, "/a/f", "/a/d")
	none("no parent", 4, "/a/f", "/x/f")
	at := len(l) - 3
	none("a lease of no span", at, "\x0a", "\x00")
	none("a lease of too long a span", at, "\x00\x00\x0a", "\xff\xff\x0a")
	none("a lease of no id", at, "\x01", "\x00")
	none("leases that do not rise", at, "\x01", "\x02")
}

func TestLoadedStatesAreTheirOwn(t *testing.T) {
	s := estates(t)
	was := picture(s)
	l := packed(t, s)
	u, _ := zstate.Load(l)
	clear(l)
	stays(t, u, "behind what is written into the records", was)
	v := loaded(t, s)
	_, r, _ := u.Last(2)
	clear(r.Paths)
	u.Tree().End(9, 1)
	u.Leases().Close(1)
	stays(t, u, "behind what is written into what is told", was)
	applied(t, u, 20, closing(1), zstate.Reply{}, slices.Concat(gone("/a/e"), gone("/a/g"), gone("/e"))...)
	stays(t, s, "behind a call of what was loaded", was)
	stays(t, v, "behind a call of another that was loaded", was)
	for _, zxid := range []int{math.MinInt, -1, 0, 7} {
		refused(t, v, zxid, opening(10, 5))
	}
}
