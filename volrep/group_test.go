package volrep_test

import (
	"slices"
	"testing"

	"harpsichord/api"
	"harpsichord/fcall"
)

const mostOnTheWay = 300

// which is a call by who asks it, and its Number.
type which struct{ client, number int }

func of(c call) which { return which{c.Client, c.Number} }

// history is what one file system answers, to which all calls come in the order of the log: each once, at its first entry.
type history struct {
	entries []api.Entry
	one     *fcall.Table
	tables  []string // by how many entries were applied
	first   map[which]int
	answers map[which]answer
}

func newHistory() *history {
	one := fcall.New(room)
	return &history{one: one, tables: []string{ofTable(one)}, first: map[which]int{}, answers: map[which]answer{}}
}

func (h *history) add(x api.Entry) {
	h.entries = append(h.entries, x)
	c, e := fcall.Decode(x.Body)
	if _, was := h.first[of(c)]; e == api.OK && !was {
		h.first[of(c)], h.answers[of(c)] = x.Number, h.one.Apply(c)
	}
	h.tables = append(h.tables, ofTable(h.one))
}

// client asks the servers of a group one call after another; l are all that it began.
type client struct {
	id int
	l  []call
}

// group are the servers of one, each held against its model, the messages between them, their clients, and what was told.
type group struct {
	t       *testing.T
	roll    func(int) int
	servers []*pair
	way     []api.Packet
	clients []*client
	h       *history
	applied []int           // at each server, since it was opened
	asked   []map[which]int // how often each server is to reply yet
	begun   map[which]int   // how many of the entries were answered OK ahead of a call's first Ask
	told    map[which]answer
	top     int         // the greatest entry of a call that was answered OK
	inView  map[int]int // who replied OK in a view
	oks     int
	late    int // how often a call was told what it was told before
	deaths  int
}

func newGroup(t *testing.T, many int, roll func(int) int) *group {
	g := &group{t: t, roll: roll, h: newHistory(), applied: make([]int, many), begun: map[which]int{}, told: map[which]answer{}, inView: map[int]int{}}
	for k := range many {
		g.servers = append(g.servers, newPair(t, k, many, roll))
		g.asked = append(g.asked, map[which]int{})
	}
	for k := range 4 {
		g.clients = append(g.clients, &client{id: 1 + k})
	}
	return g
}

// after takes what a server told, and asks that it fits what all others told.
func (g *group) after(k int) {
	g.t.Helper()
	s := g.servers[k]
	for _, p := range s.sent {
		if len(g.way) < mostOnTheWay { // what would be more is lost
			g.way = append(g.way, p)
		}
	}
	g.look(k)
	for _, r := range s.gotten {
		g.reply(k, r)
	}
	s.sent, s.gotten = nil, nil
}

// look asks that what a server applied is the history's beginning, or goes on with it.
func (g *group) look(k int) {
	g.t.Helper()
	s := g.servers[k]
	n, log := s.Applied(), s.Node().Log()
	if n < g.applied[k] || n > len(log) {
		g.t.Fatalf("P19.5: server %d has applied %d entries of %d, and had applied %d", k, n, len(log), g.applied[k])
	}
	if n == g.applied[k] {
		return
	}
	g.applied[k] = n
	for at, x := range log[:n] {
		if at == len(g.h.entries) {
			g.h.add(x)
		}
		if x != g.h.entries[at] {
			g.t.Fatalf("P19.5: server %d has applied %s, where another one applied %s", k, short(x), short(g.h.entries[at]))
		}
	}
	if s.table != g.h.tables[n] {
		g.t.Fatalf("P19.5: behind %d entries the table of server %d is %s, not %s", n, k, short(s.table), short(g.h.tables[n]))
	}
}

// reply asks that a reply is to a call that waits for it, and fits what is known.
func (g *group) reply(k int, r reply) {
	g.t.Helper()
	w := which{r.Client, r.Number}
	if g.asked[k][w] == 0 {
		g.t.Fatalf("P19.3: server %d replies %s, for which nobody waits", k, short(r))
	}
	g.asked[k][w]--
	if r.Code != api.OK {
		if !same(r.A, answer{}) {
			g.t.Fatalf("P19.3: server %d replies %s", k, short(r))
		}
		return
	}
	g.oks++
	view, normal := g.servers[k].Node().Views()
	if who, is := g.inView[view]; is && who != k || view != normal {
		g.t.Fatalf("P19.5: servers %d and %d reply OK in view %d", who, k, view)
	}
	g.inView[view] = k
	g.answered(w, r.A)
}

// answered asks that an answer is the one that the one file system gave, at a place behind all that was answered ahead of the call's beginning.
func (g *group) answered(w which, a answer) {
	g.t.Helper()
	at, is := g.h.first[w]
	if last, _ := g.h.one.Last(w.client); last > w.number && same(a, answer{Code: api.ErrArg}) {
		return // it was asked again behind a greater Number
	}
	if !is || !same(a, g.h.answers[w]) {
		g.t.Fatalf("P19.5: call %v is answered %s, not %s", w, short(a), short(g.h.answers[w]))
	}
	if at <= g.begun[w] {
		g.t.Fatalf("P19.5: call %v stands at %d, and entry %d was answered ahead of its beginning", w, at, g.begun[w])
	}
	_, was := g.told[w]
	g.late += count(was)
	g.told[w] = a
	g.top = max(g.top, at)
}

// ask lets a server be asked.
func (g *group) ask(k int, c call) {
	g.t.Helper()
	if _, is := g.begun[of(c)]; !is {
		g.begun[of(c)] = g.top
	}
	g.asked[k][of(c)]++
	g.servers[k].ask(c)
	g.after(k)
}

// next is the call that a client asks next: most often its last one, till that is told, and then another one; now and then a much older one.
func (g *group) next(c *client) call {
	if n := len(c.l); n > 0 {
		_, told := g.told[of(c.l[n-1])]
		if !told && g.roll(12) > 0 || told && g.roll(8) == 0 {
			return c.l[n-1]
		}
		if g.roll(12) == 0 {
			return c.l[g.roll(n)]
		}
	}
	x := anyCall(g.roll)
	x.Client, x.Number = c.id, len(c.l)+1
	c.l = append(c.l, x)
	return x
}

// take lets a message on its way be taken; if it stays there, it is taken once more.
func (g *group) take(at int, stays bool) {
	g.t.Helper()
	p := g.way[at]
	if !stays {
		g.way = slices.Delete(g.way, at, at+1)
	}
	g.servers[p.To].take(p)
	g.after(p.To)
}

// lead lets a server lead its next view, or one that is later.
func (g *group) lead(k int) {
	g.t.Helper()
	s := g.servers[k]
	promised, _ := s.Node().Views()
	s.lead(promised - promised%s.many + s.many*(1+g.roll(2)) + k)
	g.after(k)
}

func (g *group) nudge(k int) {
	g.t.Helper()
	g.servers[k].nudge()
	g.after(k)
}

// open opens a server on what a crash of its disk leaves: who waited there is told nothing.
func (g *group) open(k, keep, tear int) {
	g.t.Helper()
	g.servers[k].reopen(keep, tear)
	clear(g.asked[k])
	g.applied[k] = 0
	g.after(k)
}

// who is a server that leads, if there is one.
func (g *group) who() int {
	k := g.roll(len(g.servers))
	for range g.servers {
		if n := g.servers[k].Node(); n.Leads() && !n.Dead() {
			break
		}
		k = (k + 1) % len(g.servers)
	}
	return k
}

// step does something anywhere.
func (g *group) step() {
	g.t.Helper()
	k := g.roll(len(g.servers))
	s := g.servers[k]
	switch at := g.roll(1000); {
	case at < 15:
		g.lead(k)
	case at < 50:
		g.nudge(pick(g.roll, k, g.who()))
	case at < 160:
		g.ask(pick(g.roll, k, g.who(), g.who(), g.who()), g.next(g.clients[g.roll(len(g.clients))]))
	case at < 166:
		s.arm(1 + g.roll(20))
	case at < 168 || at < 260 && s.Node().Dead():
		g.deaths += count(s.Node().Dead())
		g.open(k, g.roll(s.disk.Pending()+1), g.roll(api.Sector+1))
	case len(g.way) == 0:
		g.nudge(g.who())
	default:
		g.move(g.roll(len(g.way)))
	}
}

// move lets a message be taken, or doubled, or lost.
func (g *group) move(at int) {
	g.t.Helper()
	switch g.roll(20) {
	case 0:
		g.way = slices.Delete(g.way, at, at+1)
	case 1:
		g.take(at, true)
	case 2, 3, 4: // a late one
		g.take(at, false)
	default:
		g.take(0, false)
	}
}

// settle lets all messages be taken, in order; those to and of servers who are away are lost.
func (g *group) settle(away ...int) {
	g.t.Helper()
	for range 5000 {
		if len(g.way) == 0 {
			return
		}
		if p := g.way[0]; slices.Contains(away, p.To) || slices.Contains(away, p.From) {
			g.way = g.way[1:]
		} else {
			g.take(0, false)
		}
	}
	g.t.Fatal("P19.5: messages go on for ever")
}

// leaderIs lets a server lead a view that is later than all others'.
func (g *group) leaderIs(k int, away ...int) {
	g.t.Helper()
	top := 0
	for _, s := range g.servers {
		promised, _ := s.Node().Views()
		top = max(top, promised)
	}
	many := len(g.servers)
	view := top - top%many + many + k
	g.servers[k].lead(view)
	g.after(k)
	g.settle(away...)
	if p, normal := g.servers[k].Node().Views(); p != view || normal != view || !g.servers[k].Node().Leads() {
		g.t.Fatalf("P19.2: server %d has not started view %d", k, view)
	}
}

// heal opens all again who are dead, disarms all disks, lets one lead, and all go on without loss: all apply all that is there.
func (g *group) heal() int {
	g.t.Helper()
	for k, s := range g.servers {
		s.arm(0)
		if s.Node().Dead() {
			g.open(k, g.roll(s.disk.Pending()+1), g.roll(api.Sector+1))
		}
	}
	g.settle()
	k := g.roll(len(g.servers))
	g.leaderIs(k)
	g.nudge(k)
	g.settle()
	for at, s := range g.servers {
		if n := len(s.Node().Log()); s.Applied() != n || n < g.top {
			g.t.Fatalf("P19.5: nothing is lost, and server %d has applied %d of %d entries; entry %d was answered OK", at, s.Applied(), n, g.top)
		}
		for w, n := range g.asked[at] {
			if n != 0 {
				g.t.Fatalf("P19.3: all of the log is applied, and call %v waits at server %d", w, at)
			}
		}
	}
	return k
}

// again lets each client ask its last call once more: what was done is not done again.
func (g *group) again(k int) {
	g.t.Helper()
	for _, c := range g.clients {
		if len(c.l) == 0 || len(g.servers[k].Node().Log()) == mostEntries {
			continue
		}
		w := of(c.l[len(c.l)-1])
		a, done := g.h.answers[w]
		was := g.h.one.Fs()
		g.ask(k, c.l[len(c.l)-1])
		g.settle()
		if is := g.told[w]; done && !same(is, a) {
			g.t.Fatalf("P19.5: call %v was answered %s, and then %s", w, short(a), short(is))
		}
		if is := g.servers[k].Table().Fs(); done && ofFs(is) != ofFs(was) {
			g.t.Fatalf("P19.5: call %v was done, and is done again", w)
		}
	}
}

// Whatever is lost, doubled or late, and whoever dies: tables, replies and answers. Then nothing is lost, and nobody waits any more.
func TestGroups(t *testing.T) {
	oks, late, deaths, entries, views := 0, 0, 0, 0, 0
	for seed := range uint64(80) {
		g := newGroup(t, []int{3, 5, 3, 1, 3}[seed%5], dice(seed))
		for range 900 {
			g.step()
		}
		g.again(g.heal())
		oks, late, deaths, entries, views = oks+g.oks, late+g.late, deaths+g.deaths, entries+len(g.h.entries), views+len(g.inView)
	}
	if oks < 1500 || late < 300 || deaths < 150 || entries < 2500 || views < 400 {
		t.Errorf("too little was done: %d, %d, %d, %d, %d", oks, late, deaths, entries, views)
	}
}

// away are as many servers of a group as may be away, behind one of them.
func away(first, many int) []int {
	var l []int
	for k := 1; k <= (many-1)/2; k++ {
		l = append(l, (first+k)%many)
	}
	return l
}

// What a quorum has is answered OK, and stays, though who answered is away, and another one leads; what it had alone is lost, and done once, when it is asked again.
func TestWhatWasAnsweredStays(t *testing.T) {
	for _, many := range []int{3, 5} {
		for first := range many {
			g := newGroup(t, many, dice(uint64(many+first)))
			g.leaderIs(first, away(first, many)...)
			a, b, read := makes(1, 1, "a"), makes(2, 1, "b"), lists(3, 1)
			g.ask(first, a)
			g.settle(away(first, many)...)
			if !same(g.told[of(a)], inode(2)) {
				t.Fatalf("P19.3: a quorum has it, and it is answered %s", short(g.told[of(a)]))
			}
			g.ask(first, b)
			g.way = nil
			next := (first + 1) % many
			g.leaderIs(next, first)
			g.ask(next, read)
			g.settle(first)
			if is := g.told[of(read)]; !same(is, names("a")) {
				t.Errorf("P19.5: the next one who leads reads %s", short(is))
			}
			g.ask(first, lists(3, 2))
			g.settle(first)
			if g.oks != 2 || !g.servers[first].Node().Leads() {
				t.Errorf("P19.5: who was deposed, and has not heard of it, replies OK")
			}
			g.nudge(next)
			g.settle()
			if g.asked[first][of(b)] != 0 || g.asked[first][which{3, 2}] != 0 || g.servers[first].Node().Leads() {
				t.Errorf("P19.3: who was deposed, and has heard of it: %v wait", g.asked[first])
			}
			for range 3 {
				g.ask(next, b)
				g.ask(next, a)
				g.settle()
			}
			for k, s := range g.servers {
				if is := s.Table().Fs(); !same(g.told[of(b)], inode(3)) || ofFs(is) != ofFs(g.h.one.Fs()) {
					t.Errorf("P19.5: server %d has %s", k, short(ofFs(is)))
				}
				g.open(k, 0, 0)
			}
			g.heal()
			for k, s := range g.servers {
				if l, _ := s.Table().Fs().List(root); !slices.Equal(l, []string{"a", "b"}) {
					t.Errorf("P19.5: behind the death of all server %d has %v", k, l)
				}
			}
		}
	}
}

// Who leads dies, and its client was told nothing: what a quorum had is done, and asked again it is answered alike, and not done again.
func TestAskedAgainAtTheNextOne(t *testing.T) {
	for _, many := range []int{3, 5} {
		g := newGroup(t, many, dice(uint64(many)))
		g.leaderIs(0)
		c := writes(1, 2, handle{Id: 2, Gen: 1}, "bytes")
		g.ask(0, makes(1, 1, "a"))
		g.settle()
		g.ask(0, c)
		for range g.servers[1:] {
			g.take(0, false) // all have the entry, and who leads does not know
		}
		g.way = nil
		g.servers[0].kill()
		g.leaderIs(1, 0)
		g.ask(1, reads(2, 1, c.H))
		g.settle(0)
		if is := g.told[which{2, 1}]; is.B != "bytes" {
			t.Errorf("P19.5: all but who leads had it, and one reads %s", short(is))
		}
		g.ask(1, call{Client: 2, Number: 2, Kind: kCut, H: c.H, N: 1})
		g.settle(0)
		for range 3 {
			g.ask(1, c)
			g.settle(0)
		}
		g.ask(1, reads(2, 3, c.H))
		g.settle(0)
		if is := g.told[which{2, 3}]; is.B != "b" || !same(g.told[of(c)], answer{}) {
			t.Errorf("P19.5: a Write that was asked again is done again: %s", short(is))
		}
		g.again(g.heal())
	}
}
