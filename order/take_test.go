package order_test

import (
	"testing"

	"harpsichord/api"
	"harpsichord/order"
)

// stays asks that nothing happens while this is done.
func (n *member) stays(what string, do func()) {
	n.t.Helper()
	n.Out()
	p, q := n.Views()
	leads, commit, log, was := n.Leads(), n.Commit(), line(n.Log()), content(n.disk)
	do()
	n.has(what, p, q, leads, commit, log)
	n.sends(what)
	if content(n.disk) != was {
		n.t.Fatalf("%s: something is written", what)
	}
}

// ignores asks that nothing is done with messages of a member.
func (n *member) ignores(what string, from int, l ...order.Message) {
	n.t.Helper()
	for _, m := range l {
		n.stays(what+": "+short(m), func() { n.hears(from, m) })
	}
}

// Each message would do something, were the packet right.
func TestPacketsThatAreNotTaken(t *testing.T) {
	follower := func() *member { return following(t, 1, 3, 5, "2a") }
	leader := func() *member {
		n := led(t, 4, 1, 3)
		n.offers("a")
		return n
	}
	asker := func() *member {
		n := fresh(t, 1, 3)
		n.Lead(4)
		return n
	}
	for _, x := range []struct {
		n    func() *member
		from int
		m    order.Message
	}{
		{follower, 0, ask(6)}, {follower, 0, start(6, nil)}, {follower, 2, put(5, 1, behind(1, "5b"))}, {follower, 2, tell(5, 1)},
		{follower, 2, ask(8)}, {follower, 2, start(5, lay("2a"))}, {leader, 0, ack(4, 1)}, {leader, 0, ack(4, 0)}, {leader, 2, ask(5)}, {asker, 2, join(4, 0, nil)},
	} {
		s, _ := order.Encode(x.m)
		n := x.n()
		for _, p := range []api.Packet{
			{From: x.from, To: 0, Body: s}, {From: x.from, To: 2, Body: s}, {From: x.from, To: 3, Body: s}, {From: x.from, To: -1, Body: s},
			{From: 1, To: 1, Body: s}, {From: 3, To: 1, Body: s}, {From: x.from + 3, To: 1, Body: s}, {From: x.from - 3, To: 1, Body: s}, {From: -1, To: 1, Body: s},
			{From: x.from, To: 1, Body: ""}, {From: x.from, To: 1, Body: "x"}, {From: x.from, To: 1, Body: s + "\x00"}, {From: x.from, To: 1, Body: s[:len(s)-1]},
			{From: x.from, To: 1, Body: "\x00" + s[1:]}, {From: x.from, To: 1, Body: "\x07" + s[1:]},
		} {
			n.stays("P13.4: a packet that is not to be taken", func() { n.Take(p) })
		}
		n.stays("P13.4: nothing", func() { n.Take(api.Packet{}) })
		was := n.state()
		n.Take(api.Packet{From: x.from, To: 1, Body: s})
		if l := n.says(); n.state() == was && len(l) == 0 {
			t.Errorf("P13.4: nothing is done with %s", short(x.m))
		}
	}
}

// What seems to come from the node itself would do something, were that another member.
func TestPacketsOfTheNodeItself(t *testing.T) {
	n := following(t, 1, 3, 5, "2a")
	n.ignores("P13.4: of itself", 1, ask(7), start(7, lay("2a 2b")), put(7, 1, behind(1, "5b")), tell(7, 1))
	n.Lead(7)
	n.ignores("P13.4: of itself", 1, ask(10), join(7, 6, nil), start(10, nil), start(7, nil))
	n.hears(2, join(7, 0, nil))
	n.offers("b")
	n.ignores("P13.4: of itself", 1, ack(7, 0), ack(7, 1), ack(7, 2), put(7, 2, behind(2, "7c")), tell(7, 2))
}

// state is what a node has, as a text.
func (n *member) state() string {
	p, q := n.Views()
	return short([]any{p, q, n.Leads(), n.Commit(), line(n.Log())})
}

// Only the Primary of its view says what others are to do.
func TestMessagesOfOthersThanThePrimary(t *testing.T) {
	n := following(t, 1, 5, 7, "2a")
	for from := range 5 {
		if from == 1 {
			continue
		}
		for view := 7; view < 20; view++ {
			if from != view%5 {
				n.ignores("P13.4: not of the Primary", from, ask(view), start(view, lay("2a 2b")), put(view, 1, behind(1, "2b")), tell(view, 1))
			}
		}
	}
	n.hears(2, put(7, 1, behind(1, "2b")), tell(7, 1))
	n.has("P13.4: of the Primary", 7, 7, false, 1, "2a 2b")
}

func TestTakeAsk(t *testing.T) {
	n := fresh(t, 2, 3)
	n.hears(1, ask(4))
	n.has("P13.4: an Ask", 4, 0, false, 0, "")
	n.sends("P13.4: an Ask", sent{1, join(4, 0, nil)})
	n.lasts("an Ask")
	n.hears(1, ask(4))
	n.has("P13.4: an Ask once more", 4, 0, false, 0, "")
	n.sends("P13.4: an Ask once more", sent{1, join(4, 0, nil)})
	n.ignores("P13.4: an Ask below promised", 0, ask(3))
	n.ignores("P13.4: an Ask below promised", 1, ask(1))
	n.hears(1, start(4, lay("1a 2b")))
	n.Out()
	n.ignores("P13.4: an Ask of a view whose log is here", 1, ask(4))
	n.ignores("P13.4: an Ask below that", 1, ask(1))
	n.hears(0, ask(6))
	n.has("P13.4: a later Ask", 6, 4, false, 0, "1a 2b")
	n.sends("P13.4: a later Ask", sent{0, join(6, 4, lay("1a 2b"))})
	n.lasts("a later Ask")
	n = n.again()
	n.hears(0, ask(6))
	n.sends("P13.4: an Ask of one who was opened again", sent{0, join(6, 4, lay("1a 2b"))})
	n.hears(1, ask(mostView))
	n.has("P13.4: the greatest Ask", mostView, 4, false, 0, "1a 2b")
	n.sends("P13.4: the greatest Ask", sent{1, join(mostView, 4, lay("1a 2b"))})
}

// Who leads, or asks, leads no more when a later view is asked for.
func TestAskOfWhoLeads(t *testing.T) {
	n := led(t, 4, 1, 3)
	n.offers("a")
	n.Out()
	n.ignores("P13.4: an Ask below its view", 0, ask(3))
	n.ignores("P13.4: an Ask below its view", 2, ask(2))
	n.hears(0, ask(6))
	n.has("P13.4: it is deposed", 6, 4, false, 0, "4a")
	n.sends("P13.4: it is deposed", sent{0, join(6, 4, lay("4a"))})
	n.ignores("P13.4: an Ack to one who is deposed", 2, ack(4, 1), ack(6, 1))
	n.stays("P13.5: Nudge of one who is deposed", n.Nudge)
	n.Lead(7)
	n.Out()
	n.hears(2, ask(8))
	n.has("P13.4: who asks is deposed", 8, 4, false, 0, "4a")
	n.sends("P13.4: who asks is deposed", sent{2, join(8, 4, lay("4a"))})
	n.ignores("P13.4: a Join to one who is deposed", 0, join(7, 0, nil), join(8, 0, nil))
}

func TestTakeStart(t *testing.T) {
	n := fresh(t, 2, 3)
	n.hears(1, start(1, nil))
	n.has("P13.4: an empty Start", 1, 1, false, 0, "")
	n.sends("P13.4: an empty Start", sent{1, ack(1, 0)})
	n.lasts("an empty Start")
	n.hears(0, ask(6))
	n.Out()
	n.ignores("P13.4: a Start below promised", 1, start(4, lay("2a")))
	n.ignores("P13.4: a Start of the view whose log is here, below promised", 1, start(1, nil))
	n.hears(0, start(6, lay("1a 2b 2c")))
	n.has("P13.4: a Start of what was promised", 6, 6, false, 0, "1a 2b 2c")
	n.sends("P13.4: a Start of what was promised", sent{0, ack(6, 3)})
	n.lasts("a Start")
	n.hears(0, put(6, 3, behind(3, "6d")), tell(6, 3))
	n.Out()
	n.hears(0, start(6, lay("1a 2b 2c")))
	n.has("P13.4: the Start again", 6, 6, false, 3, "1a 2b 2c 6d")
	n.sends("P13.4: the Start again", sent{0, ack(6, 4)})
	n.hears(1, start(7, lay("1a 2b 2c 6x 6y")))
	n.has("P13.4: a Start of a later view", 7, 7, false, 3, "1a 2b 2c 6x 6y")
	n.sends("P13.4: a Start of a later view", sent{1, ack(7, 5)})
	n.lasts("a Start of a later view")
	n.hears(0, start(9, lay("1a")))
	n.has("P13.4: commit is the length of a log that is taken, if it was above that", 9, 9, false, 1, "1a")
	n.sends("P13.4: a shorter log", sent{0, ack(9, 1)})
	n.lasts("a shorter log")
	n.hears(0, start(12, nil))
	n.has("P13.4: an empty log is taken", 12, 12, false, 0, "")
}

func TestStartOfWhoLeads(t *testing.T) {
	n := led(t, 4, 1, 3)
	n.offers("a")
	n.hears(2, ack(4, 1))
	n.Out()
	n.ignores("P13.4: a Start below its view", 0, start(3, lay("2x")))
	n.hears(2, start(5, lay("4a 4b")))
	n.has("P13.4: it is deposed by a Start", 5, 5, false, 1, "4a 4b")
	n.sends("P13.4: it is deposed by a Start", sent{2, ack(5, 2)})
	n.lasts("it is deposed by a Start")
	n.Lead(7)
	n.Out()
	n.hears(0, start(9, lay("4a")))
	n.has("P13.4: who asks is deposed by a Start", 9, 9, false, 1, "4a")
	n.sends("P13.4: who asks is deposed by a Start", sent{0, ack(9, 1)})
	n.ignores("P13.4: a Join to one who is deposed", 2, join(7, 0, nil))
}

func TestTakePut(t *testing.T) {
	n := following(t, 2, 3, 4, "1a 2b")
	n.hears(1, put(4, 2, behind(2, "4c")))
	n.has("P13.4: the next entry", 4, 4, false, 0, "1a 2b 4c")
	n.sends("P13.4: the next entry", sent{1, ack(4, 3)})
	n.lasts("the next entry")
	n.hears(1, put(4, 3, behind(3, "4d 4e 4f")))
	n.has("P13.4: the next entries", 4, 4, false, 0, "1a 2b 4c 4d 4e 4f")
	n.sends("P13.4: the next entries", sent{1, ack(4, 6)})
	n.lasts("the next entries")
	n.hears(1, put(4, 0, lay("1x 2y 4z")), put(4, 2, behind(2, "4x")), put(4, 6, nil), put(4, 2, nil), put(4, 9, nil))
	n.has("P13.4: entries that are there", 4, 4, false, 0, "1a 2b 4c 4d 4e 4f")
	n.sends("P13.4: entries that are there", sent{1, ack(4, 6)}, sent{1, ack(4, 6)}, sent{1, ack(4, 6)}, sent{1, ack(4, 6)}, sent{1, ack(4, 6)})
	n.hears(1, put(4, 4, behind(4, "4x 4y 4g 4h")))
	n.has("P13.4: some are there", 4, 4, false, 0, "1a 2b 4c 4d 4e 4f 4g 4h")
	n.sends("P13.4: some are there", sent{1, ack(4, 8)})
	n.lasts("some are there")
	n.hears(1, put(4, 9, behind(9, "4j 4k")))
	n.has("P13.4: one is left out", 4, 4, false, 0, "1a 2b 4c 4d 4e 4f 4g 4h")
	n.sends("P13.4: one is left out", sent{1, ack(4, 8)})
	n.lasts("one is left out")
}

// An entry whose View is below the last one's is not taken, nor what stands behind it.
func TestPutWhoseViewsAreBelow(t *testing.T) {
	n := following(t, 2, 3, 7, "1a 5b")
	n.hears(1, put(7, 2, behind(2, "4c")))
	n.sends("P13.4: a View below the last one's", sent{1, ack(7, 2)})
	n.hears(1, put(7, 2, behind(2, "4c 5d 7e")))
	n.sends("P13.4: a View below the last one's", sent{1, ack(7, 2)})
	n.hears(1, put(7, 1, behind(1, "1x 4c 7d")))
	n.sends("P13.4: a View below the last one's", sent{1, ack(7, 2)})
	n.has("P13.4: a View below the last one's", 7, 7, false, 0, "1a 5b")
	n.hears(1, put(7, 1, behind(1, "1x 5c 6d 7e")))
	n.has("P13.4: Views that are not below", 7, 7, false, 0, "1a 5b 5c 6d 7e")
	n.sends("P13.4: Views that are not below", sent{1, ack(7, 5)})
	n.lasts("Views that are not below")
}

func TestPutOfOtherViews(t *testing.T) {
	n := following(t, 2, 3, 4, "1a")
	n.ignores("P13.4: a Put of another view", 1, put(1, 1, behind(1, "1b")), put(7, 1, behind(1, "4b")))
	n.ignores("P13.4: a Put of another view", 0, put(3, 1, behind(1, "1b")), put(6, 1, behind(1, "4b")))
	n.hears(1, ask(7))
	n.Out()
	n.ignores("P13.4: a Put of the view that was promised, but not taken", 1, put(7, 1, behind(1, "7b")), put(7, 1, nil))
	n.ignores("P13.4: a Put of the view that was taken, but is over", 1, put(4, 1, behind(1, "4b")), put(4, 1, nil))
	n = led(t, 5, 2, 3)
	n.offers("a")
	n.ignores("P13.4: a Put to who leads", 1, put(4, 1, behind(1, "4b")), put(7, 1, behind(1, "5b")))
	n.ignores("P13.4: a Put to who leads", 0, put(3, 1, behind(1, "1b")), put(6, 0, lay("5b")))
}

// A whole log in one Put, and the last entry there may be.
func TestTheGreatestPut(t *testing.T) {
	n := following(t, 0, 3, 4, "")
	all := many(mostEntries, 4)
	n.hears(1, put(4, 0, lay(all)))
	n.has("P13.4: a Put of 150", 4, 4, false, 0, all)
	n.sends("P13.4: a Put of 150", sent{1, ack(4, 150)})
	n.lasts("a Put of 150")
	n.hears(1, put(4, 150, nil), put(4, 149, behind(149, "4x")), tell(4, 150))
	n.has("P13.4: behind the last one", 4, 4, false, 150, all)
	n.sends("P13.4: behind the last one", sent{1, ack(4, 150)}, sent{1, ack(4, 150)})
}

func TestTakeAck(t *testing.T) {
	n := led(t, 2, 2, 5)
	n.offers("a", "b", "c")
	n.Out()
	n.hears(0, ack(2, 1))
	n.has("P13.4: an Ack", 2, 2, true, 0, "2a 2b 2c")
	n.sends("P13.4: an Ack of one who is behind", sent{0, put(2, 1, behind(1, "2b 2c"))})
	n.hears(1, ack(2, 0))
	n.sends("P13.4: an Ack of one who has nothing", sent{1, put(2, 0, lay("2a 2b 2c"))})
	n.hears(3, ack(2, 2))
	n.has("P13.4: an Ack that makes a quorum", 2, 2, true, 1, "2a 2b 2c")
	n.sends("P13.4: an Ack that makes a quorum", append(others(2, 5, tell(2, 1)), sent{3, put(2, 2, behind(2, "2c"))})...)
	n.hears(0, ack(2, 3))
	n.has("P13.4: an Ack of all", 2, 2, true, 2, "2a 2b 2c")
	n.sends("P13.4: an Ack of all", others(2, 5, tell(2, 2))...)
	n.hears(0, ack(2, 3))
	n.sends("P13.4: the same Ack")
	n.hears(0, ack(2, 1))
	n.sends("P13.4: an Ack below the one that was there", sent{0, put(2, 1, behind(1, "2b 2c"))})
	n.hears(3, ack(2, 3))
	n.has("P13.4: the lesser Ack counted for nothing", 2, 2, true, 3, "2a 2b 2c")
	n.sends("P13.4: the lesser Ack counted for nothing", others(2, 5, tell(2, 3))...)
	n.ignores("P13.4: an Ack above the log's length", 1, ack(2, 4), ack(2, 150))
	n.ignores("P13.4: an Ack of another view", 1, ack(1, 1), ack(3, 1), ack(7, 1))
	n.hears(4, ack(2, 3))
	n.has("P13.4: one more", 2, 2, true, 3, "2a 2b 2c")
	n.sends("P13.4: one more")
	n.offers("d")
	n.sends("P13.3", others(2, 5, put(2, 3, behind(3, "2d")))...)
	n.hears(1, ack(2, 4))
	n.hears(4, ack(2, 4))
	n.has("P13.4: and so on", 2, 2, true, 4, "2a 2b 2c 2d")
	n.sends("P13.4: and so on", others(2, 5, tell(2, 4))...)
}

// A group of two, in which an Ack is a quorum at once: the Tell goes ahead of what the member lacks.
func TestAckThatCommitsAndIsBehind(t *testing.T) {
	n := led(t, 1, 1, 2)
	n.offers("a", "b")
	n.Out()
	n.hears(0, ack(1, 1))
	n.has("P13.4: an Ack", 1, 1, true, 1, "1a 1b")
	n.sends("P13.4: an Ack", sent{0, tell(1, 1)}, sent{0, put(1, 1, behind(1, "1b"))})
}

// What is of views that came ahead is committed with the start's Acks.
func TestAckOfTheStartsLog(t *testing.T) {
	n := with(t, 2, 4, "1a 2b")
	n.hears(0, join(12, 4, lay("1a 2b 4c")))
	n.hears(1, join(12, 0, nil))
	n.sends("P13.2", others(2, 5, start(12, lay("1a 2b 4c")))...)
	n.hears(4, ack(12, 3))
	n.has("P13.4: an Ack", 12, 12, true, 0, "1a 2b 4c")
	n.hears(0, ack(12, 3))
	n.has("P13.4: an Ack that makes a quorum", 12, 12, true, 3, "1a 2b 4c")
	n.sends("P13.4: an Ack that makes a quorum", others(2, 5, tell(12, 3))...)
}

func TestAcksToWhoDoesNotLead(t *testing.T) {
	n := following(t, 2, 3, 4, "1a 2b")
	n.ignores("P13.4: an Ack to who follows", 0, ack(4, 1), ack(4, 2))
	n.ignores("P13.4: a Join to who follows", 0, join(4, 1, nil), join(5, 1, nil))
	n = led(t, 5, 2, 3)
	n.offers("a")
	n = n.again()
	n.ignores("P13.4: an Ack to who was opened again", 0, ack(5, 1), ack(5, 0))
	n.ignores("P13.4: a Join to who was opened again", 0, join(5, 1, nil))
}

func TestTakeTell(t *testing.T) {
	n := following(t, 2, 3, 4, "1a 2b 3c")
	n.hears(1, tell(4, 0))
	n.has("P13.4: a Tell of 0", 4, 4, false, 0, "1a 2b 3c")
	n.hears(1, tell(4, 2))
	n.has("P13.4: a Tell", 4, 4, false, 2, "1a 2b 3c")
	n.hears(1, tell(4, 1), tell(4, 0), tell(4, 2))
	n.has("P13.4: a Tell below commit", 4, 4, false, 2, "1a 2b 3c")
	n.hears(1, tell(4, 150))
	n.has("P13.4: a Tell above the log's length", 4, 4, false, 3, "1a 2b 3c")
	n.sends("P13.4: a Tell")
	n.hears(1, put(4, 3, behind(3, "4d 4e")))
	n.has("P13.4: the log grows", 4, 4, false, 3, "1a 2b 3c 4d 4e")
	n.hears(1, tell(4, 4))
	n.has("P13.4: and is committed", 4, 4, false, 4, "1a 2b 3c 4d 4e")
	n.Out()
	n.ignores("P13.4: a Tell of another view", 1, tell(1, 5), tell(7, 5))
	n.ignores("P13.4: a Tell of another view", 0, tell(3, 5), tell(6, 5))
	n.hears(1, ask(7))
	n.Out()
	n.ignores("P13.4: a Tell of the view that was promised, but not taken", 1, tell(7, 5))
	n.ignores("P13.4: a Tell of the view that was taken, but is over", 1, tell(4, 5))
	n.hears(1, start(7, lay("1a 2b 3c 4d 4e")))
	n.has("P13.4: commit stays where a log is taken", 7, 7, false, 4, "1a 2b 3c 4d 4e")
	n.hears(1, tell(7, 5))
	n.has("P13.4: a Tell of this view", 7, 7, false, 5, "1a 2b 3c 4d 4e")
	n = led(t, 5, 2, 3)
	n.offers("a")
	n.ignores("P13.4: a Tell to who leads", 1, tell(4, 1), tell(7, 1))
	if n = n.again(); n.Commit() != 0 {
		t.Error("P13.1: something is committed")
	}
	n.ignores("P13.4: a Tell to who was opened again", 1, tell(4, 1), tell(7, 1))
}

func TestNudge(t *testing.T) {
	n := following(t, 2, 5, 4, "1a")
	n.hears(4, tell(4, 1))
	n.stays("P13.5: Nudge of who follows", n.Nudge)
	n.Lead(7)
	n.Out()
	n.Nudge()
	n.sends("P13.5: Nudge of who asks", others(2, 5, ask(7))...)
	n.hears(3, join(7, 4, lay("1a 4b")))
	n.Nudge()
	n.sends("P13.5: to all of which there is no join", sent{0, ask(7)}, sent{1, ask(7)}, sent{4, ask(7)})
	n.Nudge()
	n.Nudge()
	n.sends("P13.5: again", sent{0, ask(7)}, sent{1, ask(7)}, sent{4, ask(7)}, sent{0, ask(7)}, sent{1, ask(7)}, sent{4, ask(7)})
	n.hears(1, join(7, 0, nil))
	n.Out()
	n.Nudge()
	begun := start(7, lay("1a 4b"))
	n.reminds("P13.5: the Start, and a Tell", others(2, 5, begun, tell(7, 1))...)
	n.hears(3, ack(7, 2))
	n.offers("c", "d")
	n.Out()
	n.hears(0, ack(7, 0))
	n.hears(4, ack(7, 3))
	n.has("P13.4", 7, 7, true, 2, "1a 4b 7c 7d")
	n.Out()
	n.Nudge()
	n.reminds("P13.5: to each with its Ack, or the Start with which it started",
		sent{0, put(7, 0, lay("1a 4b 7c 7d"))}, sent{1, begun}, sent{3, put(7, 2, behind(2, "7c 7d"))}, sent{4, put(7, 3, behind(3, "7d"))},
		sent{0, tell(7, 2)}, sent{1, tell(7, 2)}, sent{3, tell(7, 2)}, sent{4, tell(7, 2)})
	n.hears(4, ack(7, 4), ack(7, 1))
	n.hears(1, ack(6, 1), ack(8, 1), ack(7, 5)) // none that counts
	n.Out()
	n.Nudge()
	n.reminds("P13.5: to who lacks nothing an empty Put",
		sent{0, put(7, 0, lay("1a 4b 7c 7d"))}, sent{1, begun}, sent{3, put(7, 2, behind(2, "7c 7d"))}, sent{4, put(7, 4, nil)},
		sent{0, tell(7, 2)}, sent{1, tell(7, 2)}, sent{3, tell(7, 2)}, sent{4, tell(7, 2)})
	n.has("P13.5: Nudge changes nothing", 7, 7, true, 2, "1a 4b 7c 7d")
}

// The greatest messages that a Nudge sends.
func TestNudgeOfAFullLog(t *testing.T) {
	n := following(t, 1, 3, 3, many(mostEntries, 2))
	lead(n, 4)
	n.hears(0, ack(4, 0))
	n.Out()
	n.Nudge()
	n.reminds("P13.5", others(1, 2, put(4, 0, n.Log()), tell(4, 0))[0], sent{0, tell(4, 0)}, sent{2, start(4, n.Log())}, sent{2, tell(4, 0)})
}

// What is to be sent comes in the order in which it came to be, whatever came between.
func TestOut(t *testing.T) {
	n := fresh(t, 1, 4)
	n.sends("P13.5: nothing yet")
	n.hears(0, ask(4))
	n.Lead(5)
	n.hears(0, join(5, 0, nil))
	n.hears(3, join(5, 0, nil))
	n.offers("a")
	n.hears(2, ack(5, 1))
	n.hears(3, ack(5, 0))
	n.hears(3, ack(5, 1))
	n.hears(2, ask(6))
	var want []sent
	want = append(want, sent{0, join(4, 0, nil)})
	want = append(want, others(1, 4, ask(5), start(5, nil), put(5, 0, lay("5a")))...)
	want = append(want, sent{3, put(5, 0, lay("5a"))})
	want = append(want, others(1, 4, tell(5, 1))...)
	want = append(want, sent{2, join(6, 5, lay("5a"))})
	n.sends("P13.5: in order, once", want...)
	n.sends("P13.5: nothing more")
}

// The two examples of the chapter.
func TestExamples(t *testing.T) {
	one, two := fresh(t, 1, 3), fresh(t, 2, 3)
	if !one.Lead(1) {
		t.Fatal("P13.2: Lead(1)")
	}
	l := one.Out()
	if len(l) != 2 || l[0].From != 1 || l[0].To != 0 || l[1].From != 1 || l[1].To != 2 {
		t.Fatalf("P13.2: it sends %v", l)
	}
	two.Take(l[1])
	back := two.Out()
	if len(back) != 1 || back[0].From != 2 || back[0].To != 1 {
		t.Fatalf("P13.4: it answers %v", back)
	}
	one.Take(back[0])
	one.has("P13.2", 1, 1, true, 0, "")
}
