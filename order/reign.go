package order

import (
	"harpsichord/api"
	"harpsichord/rank"
)

// reign is what a node has that leads a view: it asks till it has started.
type reign struct {
	joins   [api.Ensemble]*Message // none, where a member has not joined yet
	started bool
	begun   int                // how many entries the log had then
	heard   [api.Ensemble]bool // whether an Ack came since
	acks    [api.Ensemble]int
}

// Lead lets the node lead a view, and asks the others to join it.
func (n *Node) Lead(view int) bool {
	if n.Dead() || view <= n.promised || rank.Primary(view, n.many) != n.self {
		return false
	}
	if !n.promise(view, &reign{}) {
		return true
	}
	n.toOthers(n.letter(Message{Kind: ask, View: view}).send)
	n.join(n.self, Message{Kind: join, View: view, Normal: n.normal, L: n.log})
	return true
}

// Offer puts an entry behind the log.
func (n *Node) Offer(body string) bool {
	if n.Dead() || !n.hasStarted() || len(n.log) >= mostEntries || len(body) > mostBody {
		return false
	}
	next := len(n.log) + 1
	if n.extend([]api.Entry{{View: n.promised, Number: next, Body: body}}) {
		n.reign.acks[n.self] = next
		n.toOthers(n.letter(n.putBehind(next - 1)).send)
		n.look()
	}
	return true
}

// Nudge sends again what others may have missed.
func (n *Node) Nudge() {
	switch {
	case n.Dead() || !n.Leads():
	case n.hasStarted():
		n.toOthers(n.remind)
	default:
		n.toOthers(n.askAgain)
	}
}

// askAgain asks a member who has not joined yet.
func (n *Node) askAgain(to int) {
	if n.reign.joins[to] == nil {
		n.letter(Message{Kind: ask, View: n.promised}).send(to)
	}
}

// remind sends a member what it may lack.
func (n *Node) remind(to int) {
	lack := n.putBehind(n.reign.acks[to])
	if !n.reign.heard[to] {
		lack = Message{Kind: start, View: n.promised, L: n.log[:n.reign.begun]}
	}
	n.letter(lack).send(to)
	n.letter(n.tell()).send(to)
}

func (n *Node) takeJoin(from int, m Message) {
	if n.Leads() && !n.hasStarted() && n.promised == m.View && n.reign.joins[from] == nil {
		n.join(from, m)
	}
}

func (n *Node) takeAck(from int, m Message) {
	if !n.hasStarted() || n.promised != m.View || m.Number > len(n.log) {
		return
	}
	n.reign.heard[from] = true
	n.reign.acks[from] = max(n.reign.acks[from], m.Number)
	n.look()
	if m.Number < len(n.log) {
		n.letter(n.putBehind(m.Number)).send(from)
	}
}

// hasStarted tells whether the node leads, and a quorum joined.
func (n *Node) hasStarted() bool {
	return n.reign != nil && n.reign.started
}

// join lets a member's join be there, and starts the view as soon as a quorum's are.
func (n *Node) join(from int, m Message) {
	n.reign.joins[from] = &m
	var marks []api.Mark
	var logs [][]api.Entry
	for _, j := range n.reign.joins {
		if j != nil {
			marks = append(marks, rank.MarkOf(j.Normal, j.L))
			logs = append(logs, j.L)
		}
	}
	if len(marks) >= rank.Quorum(n.many) {
		n.start(logs[rank.Best(marks)])
	}
}

// start lets all others begin the view with the best log.
func (n *Node) start(best []api.Entry) {
	if !n.adopt(n.promised, best) {
		return
	}
	n.reign = &reign{started: true, begun: len(best)}
	n.reign.acks[n.self] = len(best)
	n.toOthers(n.letter(Message{Kind: start, View: n.promised, L: best}).send)
	n.look()
}

// look tells the others what a quorum has, if that is more than was committed.
func (n *Node) look() {
	if held := rank.Held(n.reign.acks[:n.many]); held > n.commit {
		n.commit = held
		n.toOthers(n.letter(n.tell()).send)
	}
}

// tell says how far the log is committed.
func (n *Node) tell() Message {
	return Message{Kind: tell, View: n.promised, Number: n.commit}
}

// putBehind has all entries behind the first ones.
func (n *Node) putBehind(first int) Message {
	return Message{Kind: put, View: n.promised, Number: first, L: n.log[first:]}
}
