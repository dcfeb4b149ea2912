package order_test

import (
	"fmt"
	"slices"
	"testing"

	"harpsichord/api"
)

// place is where an entry stands, and in which view it was made.
type place struct{ view, number int }

// said is an entry that some node said is committed, and in which view it led, or followed, then.
type said struct {
	api.Entry
	in int
}

// group are the nodes of one, the messages between them, and what the nodes said.
type group struct {
	t       *testing.T
	roll    func(int) int
	nodes   []*member
	way     []api.Packet
	offered map[place]string
	said    []said
	commit  []int // what each node said last, since it was opened
	normal  []int
	led     map[int]int // who leads a view
	deaths  int
}

func newGroup(t *testing.T, many int, roll func(int) int) *group {
	g := &group{t: t, roll: roll, offered: map[place]string{}, commit: make([]int, many), normal: make([]int, many), led: map[int]int{}}
	for k := range many {
		g.nodes = append(g.nodes, fresh(t, k, many))
	}
	return g
}

// behind takes what a node sends, and asks that what it says fits what all others said.
func (g *group) behind(k int) {
	g.t.Helper()
	n := g.nodes[k]
	for _, p := range n.Out() {
		if len(g.way) < 400 { // what would be more is lost
			g.way = append(g.way, p)
		}
	}
	promised, normal := n.Views()
	if promised < normal || n.Dead() {
		return
	}
	log := n.Log()
	if normal != g.normal[k] {
		g.begins(k, normal, log)
	}
	if n.Commit() < g.commit[k] || n.Commit() > len(log) {
		g.t.Fatalf("P13.6: member %d takes back: it said that %d are committed, and now %d of %d", k, g.commit[k], n.Commit(), len(log))
	}
	g.commit[k] = n.Commit()
	for at, x := range log[:n.Commit()] {
		if at == len(g.said) {
			g.said = append(g.said, said{x, normal})
		}
		if x != g.said[at].Entry {
			g.t.Fatalf("P13.6: member %d says that %+v is committed, where %+v was", k, x, g.said[at])
		}
	}
	for _, x := range log {
		if body, is := g.offered[place{x.View, x.Number}]; !is || body != x.Body {
			g.t.Fatalf("P13.6: member %d has %+v; offered was %q, %v", k, x, body, is)
		}
	}
	if who, is := g.led[promised]; n.Leads() && is && who != k {
		g.t.Fatalf("P13.6: members %d and %d lead view %d", k, who, promised)
	}
	if n.Leads() {
		g.led[promised] = k
	}
}

// begins asks that the log with which a node begins a view has all that was committed in those ahead of it.
func (g *group) begins(k, view int, log []api.Entry) {
	g.t.Helper()
	if view < g.normal[k] {
		g.t.Fatalf("P13.1: member %d is in view %d, and was in view %d", k, view, g.normal[k])
	}
	g.normal[k] = view
	for at, x := range g.said {
		if x.in < view && (at >= len(log) || log[at] != x.Entry) {
			g.t.Fatalf("P13.6: member %d begins view %d without %+v: %s", k, view, x, short(line(log)))
		}
	}
}

// take lets a message on its way be taken; if it stays there, it is taken once more.
func (g *group) take(at int, stays bool) {
	p := g.way[at]
	if !stays {
		g.way = slices.Delete(g.way, at, at+1)
	}
	g.nodes[p.To].Take(p)
	g.behind(p.To)
}

// lead lets a node lead its next view, or one that is later.
func (g *group) lead(k int) {
	promised, _ := g.nodes[k].Views()
	many := len(g.nodes)
	view := promised + 1 + g.roll(2)*many
	for primary(view, many) != k {
		view++
	}
	g.nodes[k].Lead(view)
	g.behind(k)
}

func (g *group) offer(k int) {
	n := g.nodes[k]
	view, _ := n.Views()
	body := fmt.Sprint("o", len(g.offered))
	at := place{view, len(n.Log()) + 1}
	was, is := g.offered[at]
	g.offered[at] = body // ahead of the Offer, since all that it says is said in it
	if !n.Offer(body) {
		delete(g.offered, at)
		if is {
			g.offered[at] = was
		}
	}
	g.behind(k)
}

// open opens a node on what a crash of its disk leaves.
func (g *group) open(k, keep, tear int) {
	n := g.nodes[k]
	g.nodes[k] = on(g.t, n.disk.Crash(keep, tear), k, len(g.nodes))
	g.commit[k] = 0
	_, g.normal[k] = g.nodes[k].Views()
	g.behind(k)
}

// step does something anywhere.
func (g *group) step() {
	k := g.roll(len(g.nodes))
	n := g.nodes[k]
	switch at := g.roll(1000); {
	case at < 15:
		g.lead(k)
	case at < 150:
		for range g.nodes { // somebody who leads, if there is one
			if n.Leads() && !n.Dead() {
				break
			}
			k = (k + 1) % len(g.nodes)
			n = g.nodes[k]
		}
		g.offer(k)
	case at < 220:
		n.Nudge()
		g.behind(k)
	case at < 235:
		n.disk.Arm(1 + g.roll(14))
	case at < 240 || at < 300 && n.Dead():
		g.deaths += count(n.Dead())
		g.open(k, g.roll(n.disk.Pending()+1), g.roll(api.Sector+1))
	case len(g.way) > 0:
		g.move(g.roll(len(g.way)))
	}
}

// move lets a message be taken, or doubled, or lost.
func (g *group) move(at int) {
	switch g.roll(12) {
	case 0:
		g.way = slices.Delete(g.way, at, at+1)
	case 1:
		g.take(at, true)
	case 2, 3, 4: // an old one
		g.take(0, false)
	default:
		g.take(at, false)
	}
}

// heal opens all again who are dead, and disarms all disks.
func (g *group) heal() {
	for k, n := range g.nodes {
		n.disk.Arm(0)
		if n.Dead() {
			g.open(k, g.roll(n.disk.Pending()+1), g.roll(api.Sector+1))
		}
	}
}

// settle lets all messages be taken, the oldest ones first, or in any order, but those to members who are away.
func (g *group) settle(inOrder bool, away ...int) {
	g.t.Helper()
	for range 20000 {
		if len(g.way) == 0 {
			return
		}
		at := 0
		if !inOrder {
			at = g.roll(len(g.way))
		}
		if slices.Contains(away, g.way[at].To) {
			g.way = slices.Delete(g.way, at, at+1)
			continue
		}
		g.take(at, false)
	}
	g.t.Fatal("P13.8: messages go on for ever")
}

// nudge lets a node send again.
func (g *group) nudge(k int) {
	g.nodes[k].Nudge()
	g.behind(k)
}

// last lets a member lead a view that is above all others.
func (g *group) last(k int) {
	g.t.Helper()
	view := 0
	for _, n := range g.nodes {
		promised, _ := n.Views()
		view = max(view, promised)
	}
	for view++; primary(view, len(g.nodes)) != k; view++ {
	}
	if !g.nodes[k].Lead(view) {
		g.t.Fatalf("P13.2: Lead(%d) of member %d is false", view, k)
	}
	g.behind(k)
}

// agree asks that all that the one has who leads is committed, and that all others have it, but those who are away; and then, that they know it, behind a Nudge at the latest: a Tell that overtakes its Put counts for less.
func (g *group) agree(k int, away ...int) {
	g.t.Helper()
	log := g.nodes[k].Log()
	view, _ := g.nodes[k].Views()
	for at, n := range g.nodes {
		if !slices.Contains(away, at) {
			commit := n.Commit()
			if at == k {
				commit = len(log)
			}
			n.has("P13.8: what was offered is committed", view, view, at == k, commit, line(log))
		}
	}
	g.nudge(k)
	g.settle(false, away...)
	g.know(k, away...)
}

// know asks that all but those who are away know that all is committed that the one has who leads.
func (g *group) know(k int, away ...int) {
	g.t.Helper()
	log := g.nodes[k].Log()
	view, _ := g.nodes[k].Views()
	for at, n := range g.nodes {
		if !slices.Contains(away, at) {
			n.has("P13.8: what was offered is committed at all", view, view, at == k, len(log), line(log))
		}
	}
}

// Whatever is lost, doubled or late, and whoever dies: what was committed is the same, and stays. Then all is delivered.
func TestGroups(t *testing.T) {
	commits, views, deaths := 0, 0, 0
	for seed := range uint64(60) {
		many := []int{3, 5, 3, 5, 3, 4, 2, 7, 1}[seed%9]
		g := newGroup(t, many, dice(seed))
		for range 1500 {
			g.step()
		}
		commits, views, deaths = commits+len(g.said), views+len(g.led), deaths+g.deaths
		g.heal()
		k := g.roll(many)
		g.last(k)
		g.settle(seed%2 == 0)
		g.offer(k)
		g.offer(k)
		g.settle(seed%2 == 0)
		g.agree(k)
	}
	if commits < 1000 || views < 300 || deaths < 200 {
		t.Errorf("too little was done: %d entries committed, %d views, %d deaths", commits, views, deaths)
	}
}

// Nothing is lost, nor late: who leads starts, and all is committed at all.
func TestWhereAllIsDeliveredInOrder(t *testing.T) {
	for _, many := range groups() {
		g := newGroup(t, many, dice(uint64(many)))
		for round := range 5 {
			k := g.roll(many)
			g.last(k)
			g.settle(true)
			g.know(k)
			for range round {
				g.offer(k)
			}
			g.settle(true)
			g.know(k)
			g.offer(k)
			g.settle(true)
			g.know(k)
		}
		if l := g.nodes[0].Log(); len(l) != 15 {
			t.Errorf("P13.8: %d entries are committed, not 15", len(l))
		}
	}
}

// Nothing is lost: who leads starts, and all is committed, in whatever order it is delivered, and how often.
func TestWhereAllIsDelivered(t *testing.T) {
	for seed := range uint64(70) {
		many := 1 + int(seed)%7
		g := newGroup(t, many, dice(seed))
		for range 3 {
			k := g.roll(many)
			g.last(k)
			for range 60 {
				if g.roll(3) == 0 && g.nodes[k].Leads() {
					g.offer(k)
				}
				if len(g.way) > 0 {
					g.take(g.roll(len(g.way)), g.roll(9) == 0)
				}
			}
			g.settle(false)
			g.offer(k)
			g.settle(false)
			g.agree(k)
			if len(g.nodes[k].Log()) == 0 {
				t.Fatalf("P13.8: member %d of %d offered nothing", k, many)
			}
		}
	}
}

// What was lost is sent again by Nudge; who is away does not hold up the others, if they are a quorum, and learns all behind that.
func TestWhereSomeAreAway(t *testing.T) {
	for seed := range uint64(60) {
		roll := dice(seed)
		many := 2 + int(seed)%6
		g := newGroup(t, many, roll)
		k := roll(many)
		var away []int
		for len(away) < many-quorum(many) {
			if x := roll(many); x != k && !slices.Contains(away, x) {
				away = append(away, x)
			}
		}
		g.last(k)
		g.settle(false, away...)
		g.offer(k)
		g.offer(k)
		g.settle(false, away...)
		g.agree(k, away...)
		for range 6 {
			g.offer(k)
			g.way = g.way[:roll(len(g.way)+1)]
			g.settle(false, away...)
		}
		g.nudge(k)
		g.settle(false, away...)
		g.agree(k, away...)
		for _, x := range away {
			g.open(x, 0, 0)
		}
		g.nudge(k)
		g.settle(false)
		g.agree(k)
		if l := g.nodes[k].Log(); len(l) != 8 {
			t.Errorf("P13.8: %d entries are committed, not 8", len(l))
		}
	}
}

// Less than a quorum commits nothing, and starts nothing, however often it is sent again.
func TestLessThanAQuorum(t *testing.T) {
	for _, many := range groups()[1:] {
		g := newGroup(t, many, dice(uint64(many)))
		var away []int
		for k := quorum(many); k < many; k++ {
			away = append(away, k)
		}
		tooMany := append(slices.Clone(away), quorum(many)-1)
		insist := func() {
			for range 4 {
				g.settle(false, tooMany...)
				g.nudge(0)
			}
		}
		g.last(0)
		insist()
		if _, normal := g.nodes[0].Views(); normal != 0 || g.nodes[0].Offer("x") {
			t.Errorf("P13.2: %d of %d members start a view", quorum(many)-1, many)
		}
		g.settle(false, away...)
		g.offer(0)
		insist()
		if n := g.nodes[0]; n.Commit() != 0 || len(n.Log()) != 1 {
			t.Errorf("P13.3: %d of %d members commit %d of %d entries", quorum(many)-1, many, n.Commit(), len(n.Log()))
		}
		g.settle(false, away...)
		g.agree(0, away...)
	}
}

// An entry that a quorum has, though few were told so, is in the next view's log; one that its Primary alone has may be lost.
func TestTheNextViewsLog(t *testing.T) {
	g := newGroup(t, 3, dice(1))
	g.last(1)
	g.settle(true)
	g.offer(1)
	g.settle(true, 0)
	g.offer(1)
	g.way = nil
	g.last(0)
	g.settle(true, 1)
	g.nodes[0].has("P13.6: a quorum had it", 3, 3, true, 1, "1o0")
	g.offer(0)
	g.settle(true, 1)
	g.nodes[0].has("P13.6: and one more", 3, 3, true, 2, "1o0 3o2")
	g.nodes[1].has("P13.6: who was deposed, and has not heard of it", 1, 1, true, 1, "1o0 1o1")
	g.nudge(1)
	g.settle(true)
	g.nodes[0].has("P13.6: what that one sends counts for nothing", 3, 3, true, 2, "1o0 3o2")
	g.nodes[1].has("P13.6: nor is it told anything", 1, 1, true, 1, "1o0 1o1")
	g.nudge(0)
	g.settle(true)
	g.agree(0)
}
