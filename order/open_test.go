package order_test

import (
	"math"
	"strings"
	"testing"

	"harpsichord/api"
	"harpsichord/ledger"
	"harpsichord/order"
	"harpsichord/platter"
)

// unopened asks that Open answers an error, and changes nothing on the disk.
func unopened(t *testing.T, what string, d *platter.Disk, self, many int, want api.Errno) {
	t.Helper()
	was, waits := content(d), d.Pending()
	if n, e := order.Open(d, self, many); n != nil || e != want {
		t.Errorf("P13.1: %s: Open of member %d of %d is %d, not %d", what, self, many, e, want)
	}
	if content(d) != was || d.Pending() != waits {
		t.Errorf("R2: %s: Open of member %d of %d wrote on the disk", what, self, many)
	}
}

// dead is a disk that died.
func dead(many int) *platter.Disk {
	d := platter.New(many)
	d.Arm(1)
	d.Sync()
	return d
}

func TestOpenOfADeadDisk(t *testing.T) {
	unopened(t, "a dead disk", dead(sectors), 0, 3, api.ErrPlatterDead)
	unopened(t, "a dead disk, no such member", dead(sectors), 3, 3, api.ErrPlatterDead)
	unopened(t, "a dead disk, no such group", dead(sectors), 0, 8, api.ErrPlatterDead)
	unopened(t, "a dead disk that is small", dead(10), 0, 3, api.ErrPlatterDead)
	d := filled("x")
	d.Arm(1)
	d.Sync()
	unopened(t, "a dead disk with something else", d, 0, 3, api.ErrPlatterDead)
}

func TestMembersOfAGroup(t *testing.T) {
	for _, many := range groups() {
		for _, self := range []int{0, many / 2, many - 1} {
			fresh(t, self, many).has("P13.1: a new disk", 0, 0, false, 0, "")
		}
		for _, self := range []int{-1, many, many + 1, math.MaxInt, math.MinInt} {
			unopened(t, "no such member", platter.New(sectors), self, many, api.ErrOrderForm)
		}
	}
	for _, many := range []int{0, -1, 8, 9, math.MaxInt, math.MinInt} {
		for _, self := range []int{0, -1, many - 1, many} {
			unopened(t, "no such group", platter.New(sectors), self, many, api.ErrOrderForm)
		}
	}
}

func TestSectorsOfADisk(t *testing.T) {
	for _, many := range []int{0, 1, 4, 550, 1098, 1099} {
		unopened(t, "a small disk", platter.New(many), 0, 3, api.ErrOrderForm)
	}
	for _, many := range []int{1100, 1101, 1102, 1103, 1999, 1 << 16} {
		n := on(t, platter.New(many), 1, 3)
		n.has("P13.1: a new disk", 0, 0, false, 0, "")
		lead(n, 1)
		n.offers("a")
		n.lasts("a great disk")
	}
}

// filled is a disk each of whose sectors has that text.
func filled(s string) *platter.Disk {
	d := platter.New(sectors)
	for n := range d.Many() {
		d.Write(n, []byte(s))
	}
	d.Sync()
	return d
}

func TestSomethingElseOnADisk(t *testing.T) {
	for _, s := range []string{"something else", "x", strings.Repeat("x", api.Sector), strings.Repeat("\xff", api.Sector), strings.Repeat("\x01", api.Sector), strings.Repeat("\x00\x01", api.Sector/2), "\x01"} {
		for self := range 3 {
			unopened(t, "something else", filled(s), self, 3, api.ErrOrderForm)
		}
	}
	roll := dice(1)
	for range 20 {
		d := platter.New(sectors)
		for n := range d.Many() {
			b := make([]byte, api.Sector)
			for k := range b {
				b[k] = byte(roll(256))
			}
			d.Write(n, b)
		}
		unopened(t, "noise", d, 0, 1, api.ErrOrderForm)
	}
}

// The records of somebody else, who has all sectors.
func TestSomebodyElsesRecords(t *testing.T) {
	for _, s := range []string{"x", "", long(200), long(16), strings.Repeat("\x00", 16), strings.Repeat("\xff", 16), strings.Repeat("\x00", 17)} {
		d := platter.New(sectors)
		l, _ := ledger.Open(d, 0, sectors)
		for range 100 {
			l.Append(s)
		}
		l.Sync()
		unopened(t, "somebody else's records", d, 0, 3, api.ErrOrderForm)
	}
}

func TestANewNode(t *testing.T) {
	n := fresh(t, 1, 3)
	n.has("P13.1: a new disk", 0, 0, false, 0, "")
	n.sends("P13.1: a new node")
	n.Nudge()
	n.sends("P13.5: Nudge of a new node")
	if n.Offer("a") {
		t.Error("P13.3: a new node's Offer is true")
	}
	n.has("P13.1: a new node", 0, 0, false, 0, "")
	n.lasts("a new node")
	if found := on(t, n.disk, 1, 3); found.Dead() {
		t.Error("P13.1: a new node is dead")
	}
}

// What lasts is there again; nothing of the rest is.
func TestANodeIsFoundAgain(t *testing.T) {
	n := led(t, 4, 1, 3)
	n.offers("a", "b", "c")
	n.hears(2, ack(4, 2))
	n.has("P13.3", 4, 4, true, 2, "4a 4b 4c")
	for _, d := range []*platter.Disk{n.disk.Crash(0, 0), n.disk.Crash(1000, 0), n.disk} {
		found := on(t, d, 1, 3)
		found.has("P13.1: a node that was there", 4, 4, false, 0, "4a 4b 4c")
		found.sends("P13.1: a node that was there")
		found.Nudge()
		found.sends("P13.5: Nudge of one who does not lead")
		if found.Lead(4) || found.Offer("d") {
			t.Error("P13.2, P13.3: it leads on")
		}
	}
	n.lasts("it leads")
	n.hears(0, ask(6))
	n.has("P13.4: an Ask", 6, 4, false, 2, "4a 4b 4c")
	n.lasts("it was asked")
	found := n.again()
	found.hears(0, start(6, lay("4a 4b 5x")))
	found.has("P13.4: a Start", 6, 6, false, 0, "4a 4b 5x")
	found.lasts("a Start behind that")
	found.hears(0, put(6, 3, behind(3, "5y 6z")))
	found.lasts("a Put behind that")
	found.again().has("P13.1", 6, 6, false, 0, "4a 4b 5x 5y 6z")
}

// The greatest that there may be: a full log, and the greatest views.
func TestTheGreatestNodeIsFoundAgain(t *testing.T) {
	log := lay(many(mostEntries, 7))
	for at := range log {
		log[at].View = mostView - 3
	}
	n := fresh(t, 0, 3)
	self := primary(mostView, 3)
	if self == 0 {
		t.Fatal("member 0 leads the greatest view")
	}
	n.hears(self, start(mostView, log))
	n.has("P13.4: the greatest Start", mostView, mostView, false, 0, line(log))
	n.lasts("the greatest Start")
	n.hears(self, tell(mostView, 150))
	n.has("P13.4: the greatest Tell", mostView, mostView, false, 150, line(log))
}

// Entries one by one, to the last one, on the smallest disk; each lasts at once, and the view again behind them.
func TestALogThatGrowsToItsEnd(t *testing.T) {
	n := led(t, mostView-1, primary(mostView-1, 3), 3)
	for k := range mostEntries {
		n.offers(long(mostBody))
		if k%10 == 0 || k > mostEntries-4 {
			n.lasts("it grows")
		}
	}
	if n.Offer("") {
		t.Error("P13.3: entry 151 is offered")
	}
	n.Out()
	n.hears(primary(mostView, 3), ask(mostView))
	n.lasts("it was asked")
	if l := n.again().Log(); len(l) != mostEntries || l[149].Body != long(mostBody) || l[149].Number != 150 {
		t.Errorf("P13.1: %d entries are found", len(l))
	}
}

func TestADeadNode(t *testing.T) {
	for _, way := range []string{"leads", "asks", "follows"} {
		n := following(t, 2, 3, 1, "")
		switch way {
		case "leads":
			n = led(t, 2, 2, 3)
			n.offers("a")
		case "asks":
			n.Lead(2)
		}
		n.Nudge() // something waits to be sent
		if n.Dead() {
			t.Fatal("P13.1: it is dead")
		}
		n.disk.Arm(1)
		n.disk.Sync()
		was, commit := content(n.disk), n.Commit()
		if !n.Dead() {
			t.Errorf("P13.1: %s: its disk died", way)
		}
		if n.Lead(5) || n.Lead(8) || n.Offer("b") {
			t.Errorf("P13.1: %s: a dead node answers true", way)
		}
		n.Nudge()
		n.hears(0, ask(3), start(3, nil), put(3, 0, lay("3a")), tell(3, 1), join(2, 0, nil), ack(2, 0), ack(2, 1))
		n.hears(1, ask(4), start(4, nil), put(4, 0, lay("4a")), tell(4, 1), join(2, 0, nil), ack(2, 0), ack(2, 1))
		if l := n.Out(); len(l) != 0 {
			t.Errorf("P13.1: %s: a dead node sends %s", way, short(l))
		}
		if content(n.disk) != was || n.Commit() != commit || !n.Dead() {
			t.Errorf("P13.1: %s: a dead node goes on", way)
		}
		unopened(t, "the disk of a dead node", n.disk, 2, 3, api.ErrPlatterDead)
	}
}
