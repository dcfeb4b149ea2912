package zstate_test

import (
	"fmt"
	"slices"
	"strings"
	"testing"

	"harpsichord/api"
	"harpsichord/lease"
	"harpsichord/zstate"
	"harpsichord/ztree"
)

// model is a state by the chapter's words: its tree and leases are built anew from what they tell at each call, and for each lease stands what was done for it.
type model struct {
	zxid   int
	znodes []api.Znode
	leases []lease.Lease
	lasts  []done // one for each lease
}

type done struct {
	number int
	reply  zstate.Reply
}

func (m model) tree(t *testing.T) *ztree.Tree {
	z, e := ztree.Load(m.znodes)
	if e != api.OK {
		t.Fatalf("ztree.Load is %d", e)
	}
	return z
}

func (m model) table(t *testing.T) *lease.Table {
	l, e := lease.Load(m.leases)
	if e != api.OK {
		t.Fatalf("lease.Load is %d", e)
	}
	return l
}

// at is the place of a session's lease; -1, if there is none.
func (m model) at(session int) int {
	return slices.IndexFunc(m.leases, func(x lease.Lease) bool { return x.Id == session })
}

func (m model) clone() model {
	return model{m.zxid, slices.Clone(m.znodes), slices.Clone(m.leases), slices.Clone(m.lasts)}
}

// apply is the model behind a transaction, and what is told.
func (m model) apply(t *testing.T, zxid int, x zstate.Txn) (model, zstate.Reply, []api.Event) {
	if zxid <= m.zxid || zxid > top {
		return m, code(api.ErrArg), nil
	}
	m = m.clone()
	m.zxid = zxid
	at := m.at(x.Session)
	l := m.table(t)
	switch {
	case x.Kind == 1:
		e := l.Open(zxid, x.Span, x.Now)
		if e != api.OK {
			return m, code(e), nil
		}
		m.leases, m.lasts = l.All(), append(m.lasts, done{})
		return m, zstate.Reply{Session: zxid}, nil
	case x.Kind == 2:
		e := l.Renew(x.Session, x.Now)
		m.leases = l.All()
		return m, code(e), nil
	case x.Kind < 1 || x.Kind > 5:
		return m, code(api.ErrArg), nil
	case at < 0:
		return m, code(api.ErrLeaseNone), nil
	case x.Kind == 4:
		return m.change(t, at, x)
	case x.Kind == 5 && m.leases[at].Last != x.Now:
		return m, code(api.ErrArg), nil
	}
	z := m.tree(t)
	events := z.End(zxid, x.Session)
	m.znodes = z.All()
	m.leases, m.lasts = slices.Delete(m.leases, at, at+1), slices.Delete(m.lasts, at, at+1)
	return m, zstate.Reply{}, events
}

func (m model) change(t *testing.T, at int, x zstate.Txn) (model, zstate.Reply, []api.Event) {
	last := m.lasts[at]
	if x.Number < 1 || x.Number > top || x.Number < last.number || len(x.L) > 6 {
		return m, code(api.ErrArg), nil
	}
	if x.Number == last.number {
		return m, last.reply, nil
	}
	z := m.tree(t)
	l, events, e := z.Do(m.zxid, x.Session, x.L)
	m.znodes = z.All()
	m.lasts[at] = done{x.Number, zstate.Reply{Code: e, Paths: l}}
	return m, m.lasts[at].reply, events
}

// dice tells numbers below n, always the same ones for a seed.
func dice(seed uint64) func(n int) int {
	x := seed
	return func(n int) int {
		x = x*6364136223846793005 + 1442695040888963407
		return int(x>>33) % n
	}
}

// pick is one of a list.
func pick[T any](roll func(int) int, l ...T) T {
	return l[roll(len(l))]
}

// anyPath is a path of a few names, most often.
func anyPath(roll func(int) int) string {
	if roll(20) == 0 {
		return pick(roll, "", "/", "a", "/a/", "//")
	}
	var b strings.Builder
	for range 1 + roll(2) {
		b.WriteString("/" + pick(roll, "a", "b", "c", "n-", "n-0000000000", "n-0000000001"))
	}
	return b.String()
}

func anyChange(roll func(int) int) api.Change {
	return api.Change{Kind: pick(roll, 1, 1, 1, 1, 2, 2, 3, 4, roll(7)-1), Path: anyPath(roll), Data: pick(roll, "", "x", "yy"), Version: pick(roll, -1, -1, -1, 0, 1, -2), Ephemeral: roll(2) == 0, Sequence: roll(4) == 0}
}

// anyStep is a zxid and a transaction for a state that is as the model: they can be done, most often.
func anyStep(roll func(int) int, m model) (int, zstate.Txn) {
	zxid := m.zxid + pick(roll, 1, 1, 1, 1, 1, 1, 2, 5, 0, -1)
	x := zstate.Txn{Kind: pick(roll, 1, 2, 3, 4, 4, 4, 4, 4, 4, 5), Span: 1 + roll(30), Now: roll(60), Session: roll(m.zxid + 2), Number: roll(9)}
	if len(m.leases) > 0 && roll(8) > 0 {
		at := roll(len(m.leases))
		x.Session = m.leases[at].Id
		if roll(3) > 0 {
			x.Now = m.leases[at].Last
		}
		if roll(6) > 0 {
			x.Number = m.lasts[at].number + pick(roll, 1, 1, 1, 2, 0, 0, -1)
		}
	}
	for range pick(roll, 0, 1, 1, 1, 2, 3, 6, 7) {
		x.L = append(x.L, anyChange(roll))
	}
	switch roll(40) {
	case 0:
		x.Kind = pick(roll, 0, 6, -1)
	case 1:
		x.Span = pick(roll, 0, -1, mostSpan, mostSpan+1)
	case 2:
		x.Now = pick(roll, -1, api.MaxClock, api.MaxClock+1)
	case 3:
		zxid = pick(roll, top+1, -1, 0)
	}
	return zxid, x
}

// asModel asks that a state tells what the model has.
func asModel(t *testing.T, what string, s *zstate.State, m model) {
	t.Helper()
	if s.Zxid() != m.zxid || !slices.Equal(s.Tree().All(), m.znodes) || !slices.Equal(s.Leases().All(), m.leases) {
		t.Fatalf("P11.2: %s: it has %s, not %s", what, short(known(s)), short(m))
	}
	for k, x := range m.leases {
		last(t, s, x.Id, m.lasts[k].number, m.lasts[k].reply)
		if m.at(x.Id+1) < 0 {
			noLast(t, s, x.Id+1)
		}
	}
}

// pair is a state, and a model that it is held against.
type pair struct {
	s *zstate.State
	m model
}

// step does one transaction with both, and tells what the state told.
func step(t *testing.T, what string, p *pair, roll func(int) int) string {
	t.Helper()
	zxid, x := anyStep(roll, p.m)
	given := copied(x)
	r, events := p.s.Apply(zxid, x)
	next, want, wanted := p.m.apply(t, zxid, x)
	p.m = next
	if !alike(r, want) || !slices.Equal(events, wanted) {
		t.Fatalf("P11.1: %s: Apply(%d, %s) is %s, %s, not %s, %s", what, zxid, short(x), short(r), short(events), short(want), short(wanted))
	}
	if !same(x, given) {
		t.Fatalf("R5: %s: Apply was given %s, which is %s", what, short(given), short(x))
	}
	asModel(t, what, p.s, p.m)
	return fmt.Sprint(r, events)
}

// walk holds states, their clones, and what is loaded of their Pack against models on many calls, and tells all that was told.
func walk(t *testing.T, seed uint64, start *pair, calls int) []string {
	t.Helper()
	roll := dice(seed)
	pairs := []*pair{start}
	var told []string
	for call := range calls {
		k := roll(len(pairs))
		told = append(told, step(t, fmt.Sprintf("seed %d, call %d", seed, call), pairs[k], roll))
		switch roll(40) {
		case 0:
			pairs[k].s = loaded(t, pairs[k].s)
		case 1:
			other := &pair{pairs[k].s.Clone(), pairs[k].m.clone()}
			if len(pairs) < 3 {
				pairs = append(pairs, other)
			} else {
				pairs[roll(3)] = other
			}
		}
	}
	for _, p := range pairs {
		asModel(t, fmt.Sprintf("seed %d, at last", seed), p.s, p.m)
		told = append(told, picture(p.s))
	}
	return told
}

func fresh() *pair {
	return &pair{zstate.New(), model{znodes: []api.Znode{{Path: "/"}}}}
}

func TestOfManyCalls(t *testing.T) {
	for seed := range uint64(30) {
		walk(t, seed, fresh(), 600)
	}
}

// With as many sessions as there may be, or some less.
func TestOfManyCallsOfManySessions(t *testing.T) {
	for seed := range uint64(4) {
		p := fresh()
		for n := range sessions - 3 {
			p.s.Apply(1+n, opening(1+n, n))
			p.m, _, _ = p.m.apply(t, 1+n, opening(1+n, n))
		}
		walk(t, 100+seed, p, 300)
	}
}

// worn is a state behind many calls, and what it is by the model's words.
func worn(t *testing.T, roll func(int) int, calls int) *pair {
	t.Helper()
	p := fresh()
	for call := range calls {
		step(t, fmt.Sprint("call ", call), p, roll)
	}
	return p
}

// Behind many calls, Load of Pack is the same state, and both go on alike.
func TestLoadOfPackGoesOnAlike(t *testing.T) {
	for seed := range uint64(30) {
		roll := dice(200 + seed)
		p := worn(t, roll, 200)
		a, b := p.s, loaded(t, p.s)
		for range 200 {
			zxid, x := anyStep(roll, p.m)
			p.m, _, _ = p.m.apply(t, zxid, x)
			r, events := a.Apply(zxid, x)
			r2, events2 := b.Apply(zxid, x)
			if !alike(r, r2) || !slices.Equal(events, events2) || picture(a) != picture(b) {
				t.Fatalf("P11.5: seed %d: Apply(%d, %s) is %s, %s, and %s, %s of what was loaded", seed, zxid, short(x), short(r), short(events), short(r2), short(events2))
			}
		}
	}
}

// What was done for a Number is not done again, however often it is asked for.
func TestNothingIsDoneTwice(t *testing.T) {
	again := 0
	for seed := range uint64(30) {
		roll := dice(300 + seed)
		p := worn(t, roll, 100)
		for range 100 {
			zxid, x := anyStep(roll, p.m)
			if zxid <= p.s.Zxid() || zxid > top {
				continue
			}
			p.m, _, _ = p.m.apply(t, zxid, x)
			first, _ := p.s.Apply(zxid, x)
			if n, _, is := p.s.Last(x.Session); x.Kind != 4 || !is || n != x.Number || len(x.L) > 6 {
				continue
			}
			was := known(p.s)
			if roll(2) == 0 {
				x.L = x.L[:roll(len(x.L)+1)]
			}
			if roll(4) == 0 {
				p.s = loaded(t, p.s)
			}
			p.m.zxid++
			r, events := p.s.Apply(p.m.zxid, x)
			if is := known(p.s); !alike(r, first) || len(events) != 0 || is != was {
				t.Fatalf("P11.5: seed %d: %s once more is %s, %s, not %s: %s, not %s", seed, short(x), short(r), short(events), short(first), short(is), short(was))
			}
			again++
		}
	}
	if again < 500 {
		t.Errorf("%d were asked for again", again)
	}
}

func TestTheSameCallsTellTheSame(t *testing.T) {
	for seed := range uint64(6) {
		first := walk(t, seed, fresh(), 300)
		walk(t, seed+1, fresh(), 100) // other states make no difference
		if again := walk(t, seed, fresh(), 300); !slices.Equal(first, again) {
			t.Errorf("R7: seed %d: the same calls tell others", seed)
		}
	}
}

// Of many leases and znodes all is told in one order, whatever the order of a map.
func TestTheOrderOfAMapIsNotTold(t *testing.T) {
	s := open(t, sessions)
	for n := range sessions {
		id := 1 + n*37%sessions
		path := fmt.Sprintf("/e%d", n*53%sessions)
		applied(t, s, 200+n, change(id, 1+n, ephemeral(path), check("/")), paths(path, "/"), made(path)...)
	}
	was := picture(s)
	for range 20 {
		stays(t, s, "told once more", was)
		stays(t, s.Clone(), "told by a Clone", was)
		loaded(t, s)
	}
}
