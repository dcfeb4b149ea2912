package zab_test

import (
	"fmt"
	"slices"
	"strings"
	"testing"

	"harpsichord/api"
	"harpsichord/watcher"
	"harpsichord/zab"
	"harpsichord/zstate"
)

const mostOnTheWay = 300

// client asks the servers of a group.
type client struct {
	id, session, seen int
	requests          int // how many it asked
	next              int // the Number of its next change
}

// asked is a request that is not answered yet, and the server that was asked.
type asked struct {
	r  zab.Request
	at int
}

// sure is what a writer was answered OK: a znode of its own that nobody deletes.
type sure struct {
	zxid int
	path string
}

// group are the servers of one, each held against its model, the messages between them, their clients, and what was told.
type group struct {
	t       *testing.T
	roll    func(int) int
	servers []*pair
	way     []api.Packet
	clients []*client
	asked   map[[2]int]asked
	states  map[int]*zstate.State // by zxid
	packs   map[int]string
	sure    []sure
	watches []map[watcher.Watch]bool // at each server
	zxids   []int                    // of each server, since it was opened
	told    int
	reads   int
	deaths  int
	ends    int
}

func newGroup(t *testing.T, many int, roll func(int) int) *group {
	g := &group{t: t, roll: roll, asked: map[[2]int]asked{}, states: map[int]*zstate.State{}, packs: map[int]string{}, zxids: make([]int, many)}
	for k := range many {
		g.servers = append(g.servers, newPair(t, k, many, 2, roll))
		g.watches = append(g.watches, map[watcher.Watch]bool{})
		g.after(k)
	}
	for k := range 4 {
		g.clients = append(g.clients, &client{id: 10 + k})
	}
	return g
}

// after takes what a server told, and asks that it fits what all others told.
func (g *group) after(k int) {
	g.t.Helper()
	s := g.servers[k]
	for _, p := range s.sent {
		if len(g.way) < mostOnTheWay { // what would be more is lost
			g.way = append(g.way, p)
		}
	}
	g.look(k)
	for _, e := range s.heard {
		g.event(k, e)
	}
	for _, a := range s.gotten {
		g.answer(k, a)
	}
	s.sent, s.heard, s.gotten = nil, nil, nil
}

// look asks that a server's state is that of all others at its zxid.
func (g *group) look(k int) {
	g.t.Helper()
	state := g.servers[k].State()
	zxid, pack := state.Zxid(), strings.Join(state.Pack(), "|")
	if zxid < g.zxids[k] {
		g.t.Fatalf("P15.6: server %d is at zxid %d, and was at %d", k, zxid, g.zxids[k])
	}
	g.zxids[k] = zxid
	was, is := g.packs[zxid]
	if is && pack != was {
		g.t.Fatalf("P15.6: at zxid %d the state of server %d is %s; another one's is %s", zxid, k, short(pack), short(was))
	}
	if is {
		return
	}
	g.packs[zxid], g.states[zxid] = pack, state
	for _, x := range g.sure {
		g.has(zxid, x)
	}
	for _, z := range state.Tree().All() {
		if _, is := state.Leases().Get(z.Stat.Owner); z.Stat.Owner != 0 && !is {
			g.t.Fatalf("P15.6: at zxid %d %s is left of session %d, which has ended", zxid, z.Path, z.Stat.Owner)
		}
	}
}

// has asks that what was answered OK is in a state that is not earlier.
func (g *group) has(zxid int, x sure) {
	g.t.Helper()
	if z, is := g.states[zxid].Tree().Get(x.path); zxid >= x.zxid && (!is || z.Stat.Created > x.zxid) {
		g.t.Fatalf("P15.6: %s was answered OK at zxid %d; at zxid %d it has %v, %s", x.path, x.zxid, zxid, is, short(z))
	}
}

// event asks that somebody waited for what is told.
func (g *group) event(k int, e api.Event) {
	g.t.Helper()
	g.told++
	node, kids := watcher.Watch{Session: e.Session, Path: e.Path}, watcher.Watch{Session: e.Session, Path: e.Path, Kids: true}
	mine := g.watches[k]
	if !(e.Kind != api.Children && mine[node]) && !((e.Kind == api.Children || e.Kind == api.Deleted) && mine[kids]) {
		g.t.Fatalf("P15.6: server %d tells %v, of which nobody wants to be told (any more)", k, e)
	}
	if e.Kind != api.Children {
		delete(mine, node)
	}
	if e.Kind == api.Children || e.Kind == api.Deleted {
		delete(mine, kids)
	}
}

// answer asks that an answer is that of a request which waits for it, and fits what is known.
func (g *group) answer(k int, a zab.Answer) {
	g.t.Helper()
	x, is := g.asked[[2]int{a.To, a.Number}]
	if !is || x.at != k {
		g.t.Fatalf("P15.4: server %d answers %s, for which nobody waits", k, short(a))
	}
	delete(g.asked, [2]int{a.To, a.Number})
	c := g.clients[a.To-10]
	if x.r.Kind == 1 {
		g.written(c, x.r, a)
	} else if a.Code == api.OK {
		g.read(k, x.r, a)
	}
	if a.Code == api.OK {
		c.seen = max(c.seen, a.Zxid)
	}
}

func (g *group) written(c *client, r zab.Request, a zab.Answer) {
	g.t.Helper()
	switch {
	case a.Code == api.ErrLeaseNone:
		c.session = 0
	case a.Code != api.OK:
	case r.T.Kind == 1:
		c.session, c.next = a.Reply.Session, 1
	case r.T.Kind == 4 && strings.HasPrefix(r.T.L[0].Path, "/own"):
		x := sure{a.Zxid, r.T.L[0].Path}
		g.sure = append(g.sure, x)
		for zxid := range g.states {
			g.has(zxid, x)
		}
	}
}

func (g *group) read(k int, r zab.Request, a zab.Answer) {
	g.t.Helper()
	g.reads++
	state := g.states[a.Zxid]
	if a.Zxid < r.Seen || state == nil {
		g.t.Fatalf("P15.6: who has seen zxid %d reads %s", r.Seen, short(a))
	}
	want := zab.Answer{To: a.To, Number: a.Number, Zxid: a.Zxid}
	if r.Kind == 2 {
		want.Node, want.Is = state.Tree().Get(r.Path)
	} else {
		want.Kids, want.Is = state.Tree().Kids(r.Path)
	}
	if !alike(a, want) {
		g.t.Fatalf("P15.6: at zxid %d server %d reads %s, not %s", a.Zxid, k, short(a), short(want))
	}
	if _, is := state.Leases().Get(r.T.Session); r.Watch && is {
		g.watches[k][watcher.Watch{Session: r.T.Session, Path: r.Path, Kids: r.Kind == 3}] = true
	}
}

// ask lets a client ask a server.
func (g *group) ask(c *client, k int, r zab.Request) {
	g.t.Helper()
	c.requests++
	r.From, r.Number = c.id, c.requests
	g.asked[[2]int{r.From, r.Number}] = asked{r, k}
	g.servers[k].ask(r)
	g.after(k)
	if g.servers[k].m.node.Dead() { // what it answers is free
		g.forget(k)
	}
}

// forget lets nobody wait for a server.
func (g *group) forget(k int) {
	for at, x := range g.asked {
		if x.at == k {
			delete(g.asked, at)
		}
	}
}

// request is one that a client may ask.
func (g *group) request(c *client) zab.Request {
	roll := g.roll
	if c.session == 0 {
		return write(0, 0, opening(pick(roll, 5, 20, 200)))
	}
	shared := pick(roll, "/", "/a", "/b", "/a/x")
	own := fmt.Sprintf("/own%d-%d", c.id, c.requests)
	if roll(2) == 0 {
		return seen(c.seen, pick(roll, watched(c.session, get(shared)), watched(c.session, list(shared)), get(shared)))
	}
	x := change(c.session, c.next, pick(roll, create(own), create(own), create(shared), remove(shared), set(shared, own), ephemeral("/e"+own[1:])))
	c.next++
	return write(0, 0, pick(roll, x, x, x, renewal(c.session)))
}

// take lets a message on its way be taken; if it stays there, it is taken once more.
func (g *group) take(at int, stays bool) {
	g.t.Helper()
	p := g.way[at]
	if !stays {
		g.way = slices.Delete(g.way, at, at+1)
	}
	g.servers[p.To].take(p)
	g.after(p.To)
}

func (g *group) tick(k int) {
	g.t.Helper()
	n := g.servers[k].m.node
	length := len(n.Log())
	g.servers[k].tick()
	g.ends += len(n.Log()) - length
	g.after(k)
}

// open opens a server on what a crash of its disk leaves: who waited there is told nothing, and no watch is left.
func (g *group) open(k int) {
	g.t.Helper()
	s := g.servers[k]
	s.reopen(g.roll(s.disk.Pending()+1), g.roll(api.Sector+1))
	g.forget(k)
	g.zxids[k] = 0
	clear(g.watches[k])
	g.after(k)
}

// who is a server that leads, if there is one.
func (g *group) who() int {
	k := g.roll(len(g.servers))
	for range g.servers {
		if n := g.servers[k].m.node; n.Leads() && !n.Dead() {
			break
		}
		k = (k + 1) % len(g.servers)
	}
	return k
}

// step does something anywhere.
func (g *group) step() {
	g.t.Helper()
	k := g.roll(len(g.servers))
	s := g.servers[k]
	c := g.clients[g.roll(len(g.clients))]
	switch at := g.roll(1000); {
	case at < 90:
		g.tick(k)
	case at < 200:
		g.ask(c, pick(g.roll, k, g.who(), g.who()), g.request(c))
	case at < 206:
		s.arm(1 + g.roll(20))
	case at < 208 || at < 260 && s.m.node.Dead():
		g.deaths += count(s.m.node.Dead())
		g.open(k)
	case len(g.way) == 0:
		g.tick(k)
	default:
		g.move(g.roll(len(g.way)))
	}
}

// move lets a message be taken, or doubled, or lost.
func (g *group) move(at int) {
	g.t.Helper()
	switch g.roll(20) {
	case 0:
		g.way = slices.Delete(g.way, at, at+1)
	case 1:
		g.take(at, true)
	case 2, 3, 4: // a late one
		g.take(at, false)
	default:
		g.take(0, false)
	}
}

// settle lets all messages be taken, in order; those to and of servers who are away are lost.
func (g *group) settle(away ...int) {
	g.t.Helper()
	for range 5000 {
		if len(g.way) == 0 {
			return
		}
		if p := g.way[0]; slices.Contains(away, p.To) || slices.Contains(away, p.From) {
			g.way = g.way[1:]
		} else {
			g.take(0, false)
		}
	}
	g.t.Fatal("P15.6: messages go on for ever")
}

// heal opens all again who are dead, disarms all disks, and lets all go on without loss till all are at one zxid, at which all of their logs is applied.
func (g *group) heal() {
	g.t.Helper()
	for k, s := range g.servers {
		s.arm(0)
		if s.m.node.Dead() {
			g.open(k)
		}
	}
	for range 200 {
		for k := range g.servers {
			g.tick(k)
			g.settle()
		}
		if g.atOne() {
			return
		}
	}
	g.t.Fatal("P15.6: nothing is lost, and they are not at one")
}

// atOne tells whether one leads, and all have applied all of its log.
func (g *group) atOne() bool {
	length := len(g.servers[0].m.node.Log())
	lead := 0
	for _, s := range g.servers {
		lead += count(s.m.node.Leads())
		if len(s.m.node.Log()) != length || s.m.applied != length || s.zxid() != length {
			return false
		}
	}
	return lead == 1
}

// Whatever is lost, doubled or late, and whoever dies: states, answers, reads and watches. Then nothing is lost, and nobody waits any more.
func TestGroups(t *testing.T) {
	sure, told, reads, deaths, ends, states := 0, 0, 0, 0, 0, 0
	for seed := range uint64(60) {
		g := newGroup(t, []int{3, 5, 3, 1, 3}[seed%5], dice(seed))
		for range 900 {
			g.step()
		}
		g.heal()
		if len(g.asked) != 0 {
			t.Errorf("P15.4: all of the log is applied, and there wait %s", short(g.asked))
		}
		sure, told, reads, deaths, ends, states = sure+len(g.sure), told+g.told, reads+g.reads, deaths+g.deaths, ends+g.ends, states+len(g.states)
	}
	if sure < 150 || told < 100 || reads < 1000 || deaths < 100 || ends < 40 || states < 1000 {
		t.Errorf("too little was done: %d, %d, %d, %d, %d, %d", sure, told, reads, deaths, ends, states)
	}
}

// leader lets one of the servers lead who are not away, and tells who does.
func (g *group) leader(away ...int) int {
	g.t.Helper()
	for range 100 {
		for k, s := range g.servers {
			if slices.Contains(away, k) {
				continue
			}
			g.tick(k)
			g.settle(away...)
			if p, normal := s.m.node.Views(); s.m.node.Leads() && p == normal {
				return k
			}
		}
	}
	g.t.Fatalf("P15.3: nobody leads but for %v", away)
	return 0
}

// leaderIs lets a server of a new group lead.
func (g *group) leaderIs(k int, away ...int) {
	g.t.Helper()
	for range 1000 {
		if g.tick(k); g.servers[k].m.node.Leads() {
			break
		}
	}
	g.settle(away...)
	if p, normal := g.servers[k].m.node.Views(); p != normal {
		g.t.Fatalf("P15.3: server %d has not started", k)
	}
}

// ticks lets time go on at a server, and all messages be taken.
func (g *group) ticks(k, n int) {
	g.t.Helper()
	for range n {
		g.tick(k)
		g.settle()
	}
}

// of is a znode's data at a server, of one who has seen that zxid.
func (g *group) of(k, zxid int, path string) string {
	g.t.Helper()
	a := g.servers[k].one(seen(zxid, get(path)))
	g.servers[k].m.ask(seen(zxid, get(path)))
	g.servers[k].m.answers = nil
	switch {
	case a.Code == api.ErrZabBehind:
		return "behind"
	case !a.Is:
		return "none"
	}
	return a.Node.Data
}

// What a quorum has is answered OK, and stays, though who answered dies, and another one leads; what it had alone is lost.
func TestWhatWasAnsweredStays(t *testing.T) {
	for _, many := range []int{3, 5} {
		for first := range many {
			g := newGroup(t, many, dice(uint64(many+first)))
			c := g.clients[0]
			var away []int // as many as may be
			for k := 1; k <= (many-1)/2; k++ {
				away = append(away, (first+k)%many)
			}
			g.leaderIs(first, away...)
			g.ask(c, first, write(0, 0, opening(mostLease)))
			g.settle(away...)
			g.ask(c, first, write(0, 0, change(c.session, 1, create("/own"), set("/own", "a"))))
			g.settle(away...)
			if len(g.sure) != 1 || len(g.asked) != 0 {
				t.Fatalf("P15.4: a quorum has it, and it is not answered: %s", short(g.asked))
			}
			g.ask(c, first, write(0, 0, change(c.session, 2, set("/own", "b"))))
			g.way = nil
			next := g.leader(first)
			g.ask(c, next, write(0, 0, renewal(c.session)))
			g.settle(first)
			if is := g.of(next, 2, "/own"); is != "a" {
				t.Errorf("P15.6: the next one who leads has %q", is)
			}
			if is := g.of(first, 2, "/own"); is != "a" {
				t.Errorf("P15.6: the one who led has %q", is)
			}
			if is := g.of(first, 3, "/own"); is != "behind" {
				t.Errorf("P15.6: of what it has not seen the one who led has %q", is)
			}
			if !g.servers[first].Node().Leads() || len(g.asked) != 1 {
				t.Errorf("P15.4: the one who has not heard of it leads, and is asked by one: %v", g.asked)
			}
			g.heal()
			if len(g.asked) != 0 {
				t.Errorf("P15.4: the one who led has heard of it: %v", g.asked)
			}
			for k := range many {
				if is := g.of(k, 3, "/own"); is != "a" {
					t.Errorf("P15.6: at last server %d has %q", k, is)
				}
				g.open(k)
				if is := g.of(k, 0, "/own"); is != "none" {
					t.Errorf("P15.1: what is opened anew has %q", is)
				}
			}
			g.heal()
			for k := range many {
				if is := g.of(k, 3, "/own"); is != "a" {
					t.Errorf("P15.6: behind the death of all server %d has %q", k, is)
				}
			}
		}
	}
}

// A session that is renewed at who leads lives on; behind its end its znodes are no more at any server, and who watched there is told once.
func TestSessionsOfAGroup(t *testing.T) {
	g := newGroup(t, 3, dice(1))
	a, b := g.clients[0], g.clients[1]
	g.leaderIs(1)
	g.ask(a, 1, write(0, 0, opening(mostLease)))
	g.ask(b, 1, write(0, 0, opening(9)))
	g.settle()
	g.ask(b, 1, write(0, 0, change(b.session, 1, ephemeral("/eb"))))
	g.settle()
	g.ticks(1, 2)
	for k := range 3 {
		g.ask(a, k, watched(a.session, get("/eb")))
	}
	for range 6 {
		g.ticks(1, 5)
		g.ask(b, 1, write(0, 0, renewal(b.session)))
		g.settle()
	}
	if g.told != 0 || !slices.Contains(g.servers[0].sessions(), b.session) {
		t.Errorf("P15.3: renewed each 5 ticks, it ends: %v", g.servers[0].sessions())
	}
	g.ticks(1, 15)
	for k := range 3 {
		if is := g.of(k, g.zxids[1], "/eb"); is != "none" {
			t.Errorf("P15.6: at server %d an ended session's znode is %q", k, is)
		}
	}
	if g.told != 3 || g.ends != 1 {
		t.Errorf("P15.6: %d are told of the end of a session, and it ends %d times", g.told, g.ends)
	}
}
