package order_test

import (
	"math"
	"slices"
	"testing"

	"harpsichord/order"
)

func TestLead(t *testing.T) {
	n := fresh(t, 1, 3)
	for _, view := range []int{0, -1, -2, 2, 3, 5, math.MinInt, math.MinInt + 1} {
		if n.Lead(view) {
			t.Fatalf("P13.2: Lead(%d) of member 1 of 3 is true", view)
		}
	}
	n.has("R2: a Lead that is false", 0, 0, false, 0, "")
	n.sends("R2: a Lead that is false")
	if !n.Lead(1) {
		t.Fatal("P13.2: Lead(1)")
	}
	n.has("P13.2: it asks", 1, 0, true, 0, "")
	n.sends("P13.2: it asks", others(1, 3, ask(1))...)
	n.lasts("it asks")
	if n.Lead(1) || n.Lead(-2) || n.Lead(0) || n.Lead(2) || n.Offer("a") {
		t.Error("P13.2: a view that is not above promised, or another one's, or an Offer of one who asks")
	}
	n.has("R2: a Lead that is false", 1, 0, true, 0, "")
	n.sends("R2: a Lead that is false")
	if !n.Lead(7) {
		t.Fatal("P13.2: Lead(7)")
	}
	n.has("P13.2: it asks again", 7, 0, true, 0, "")
	n.sends("P13.2: it asks again", others(1, 3, ask(7))...)
	n.hears(2, ask(8))
	n.has("P13.4: another one asks", 8, 0, false, 0, "")
	if n.Lead(7) || n.Lead(4) {
		t.Error("P13.2: a view below promised")
	}
	if !n.Lead(10) {
		t.Error("P13.2: Lead(10)")
	}
}

func TestLeadOfTheGreatestViews(t *testing.T) {
	for _, many := range groups() {
		for self := range many {
			for view := mostView - 8; view <= mostView+8; view++ {
				n := fresh(t, self, many)
				if want := view <= mostView && view%many == self; n.Lead(view) != want {
					t.Fatalf("P13.2: Lead(%d) of member %d of %d is not %v", view, self, many, want)
				}
			}
			for _, view := range []int{math.MaxInt, math.MaxInt - 1, math.MaxInt - 2, math.MinInt} {
				if n := fresh(t, self, many); n.Lead(view) || n.Leads() {
					t.Fatalf("P13.2: Lead(%d) of member %d of %d is true", view, self, many)
				}
			}
		}
	}
}

// Of each group: to whom it goes, and by whose join it starts.
func TestTheQuorumOfEachGroup(t *testing.T) {
	for _, many := range groups() {
		for self := range many {
			n := fresh(t, self, many)
			view := many + self
			if !n.Lead(view) {
				t.Fatalf("P13.2: Lead(%d) of member %d of %d", view, self, many)
			}
			n.sends("P13.2: it asks", others(self, many, ask(view))...)
			joins := 1
			for k := range many {
				if k == self || joins >= quorum(many) {
					continue
				}
				n.has("P13.2: too few joins", view, 0, true, 0, "")
				n.sends("P13.2: too few joins")
				n.hears(k, join(view, 0, nil))
				joins++
			}
			n.has("P13.2: it has started", view, view, true, 0, "")
			n.sends("P13.2: it has started", others(self, many, start(view, nil))...)
			n.lasts("it has started")
		}
	}
}

func TestAGroupOfOne(t *testing.T) {
	n := fresh(t, 0, 1)
	if !n.Lead(5) || n.Lead(5) {
		t.Fatal("P13.2: Lead(5)")
	}
	n.has("P13.2: one alone starts", 5, 5, true, 0, "")
	n.offers("a", "b")
	n.has("P13.3: one alone commits", 5, 5, true, 2, "5a 5b")
	n.Nudge()
	n.sends("P13.2: one alone has nobody to send to")
	n.lasts("one alone")
	n = n.again()
	n.has("P13.1", 5, 5, false, 0, "5a 5b")
	if !n.Lead(6) {
		t.Fatal("P13.2: Lead(6)")
	}
	n.has("P13.2: one alone commits its log at the start", 6, 6, true, 2, "5a 5b")
	n.offers("c")
	n.has("P13.3", 6, 6, true, 3, "5a 5b 6c")
	n.sends("P13.2: one alone has nobody to send to")
}

func TestJoinsThatDoNotCount(t *testing.T) {
	n := fresh(t, 1, 5)
	n.hears(2, join(6, 0, nil)) // ahead of the asking
	n.Lead(6)
	n.sends("P13.2", others(1, 5, ask(6))...)
	n.hears(2, join(6, 0, nil), join(6, 0, nil), join(6, 5, lay("1a"))) // one member's, more than once
	n.hears(3, join(1, 0, nil), join(5, 0, nil), join(7, 0, nil), join(11, 0, nil))
	n.hears(1, join(6, 0, nil)) // its own
	n.hears(5, join(6, 0, nil)) // nobody's
	n.hears(-1, join(6, 0, nil))
	n.has("P13.4: joins that do not count", 6, 0, true, 0, "")
	n.sends("P13.4: joins that do not count")
	n.hears(3, join(6, 2, lay("2b")))
	n.has("P13.4: the join that does", 6, 6, true, 0, "2b")
	n.sends("P13.4: the join that does", others(1, 5, start(6, lay("2b")))...)
	n.hears(4, join(6, 5, lay("5c 5d"))) // one more behind it
	n.hears(0, join(6, 5, lay("5c 5d")))
	n.has("P13.4: a join behind the start", 6, 6, true, 0, "2b")
	n.sends("P13.4: a join behind the start")
	n.Nudge()
	n.reminds("P13.4: its member has not answered the start", others(1, 5, start(6, lay("2b")), tell(6, 0))...)
}

// A Join of which a member sent another one first: the first one counts.
func TestTheFirstJoinOfAMember(t *testing.T) {
	n := fresh(t, 0, 5)
	n.Lead(5)
	n.hears(3, join(5, 1, lay("1a")), join(5, 4, lay("4b 4c")))
	n.hears(4, join(5, 0, nil))
	n.has("P13.4: the first join of a member", 5, 5, true, 0, "1a")
}

// A node that asks in a new view counts no join of the old one.
func TestJoinsOfAViewThatIsOver(t *testing.T) {
	n := fresh(t, 0, 5)
	n.Lead(5)
	n.hears(1, join(5, 0, nil))
	n.Lead(10)
	n.Out()
	n.hears(2, join(5, 0, nil))
	n.hears(2, join(10, 0, nil))
	n.has("P13.2: joins of another view", 10, 0, true, 0, "")
	n.hears(3, join(10, 0, nil))
	n.has("P13.2: joins of this one", 10, 10, true, 0, "")
	n = fresh(t, 0, 3)
	n.Lead(3)
	n.hears(1, ask(4))
	n.hears(2, join(3, 0, nil), join(4, 0, nil))
	n.has("P13.4: it does not lead any more", 4, 0, false, 0, "")
}

// with is member self of 5, who took that log in a view, and then leads view 10 + self; nothing waits to be sent.
func with(t *testing.T, self, normal int, log string) *member {
	t.Helper()
	n := fresh(t, self, 5)
	if normal > 0 {
		n = following(t, self, 5, normal, log)
	}
	if !n.Lead(10 + self) {
		t.Fatalf("P13.2: Lead(%d)", 10+self)
	}
	n.Out()
	return n
}

func TestWhichLogIsTaken(t *testing.T) {
	for _, x := range []struct {
		what          string
		self, normal  int
		own           string
		first, second int // who joins
		one, other    order.Message
		want          string
	}{
		{"its own, by Normal", 2, 4, "1a 2b", 0, 1, join(12, 3, lay("1a 2b 3c 3d")), join(12, 1, lay("1x")), "1a 2b"},
		{"a first one, by Normal", 2, 4, "1a 2b", 0, 1, join(12, 5, lay("1a")), join(12, 4, lay("1a 2b 4c")), "1a"},
		{"a second one, by Normal", 2, 4, "1a 2b", 0, 1, join(12, 3, lay("1a 3x 3y 3z")), join(12, 6, nil), ""},
		{"its own, by how many", 2, 4, "1a 2b 3c", 0, 1, join(12, 4, lay("1a 2b")), join(12, 4, lay("4x")), "1a 2b 3c"},
		{"a first one, by how many", 2, 4, "1a 2b", 0, 1, join(12, 4, lay("1a 1b 1c")), join(12, 4, lay("4a 4b")), "1a 1b 1c"},
		{"a second one, by how many", 2, 4, "1a", 4, 3, join(12, 4, lay("4x 4y")), join(12, 4, lay("1a 1b 1c")), "1a 1b 1c"},
		{"not by the last entry's View", 2, 4, "1a 1b", 0, 1, join(12, 4, lay("4x")), join(12, 3, lay("3a 3b 3c")), "1a 1b"},
		{"the least member of three", 2, 4, "1a", 4, 1, join(12, 4, lay("4x")), join(12, 4, lay("3y")), "3y"},
		{"its own, which is the least one", 2, 4, "1a", 4, 3, join(12, 4, lay("4x")), join(12, 4, lay("3y")), "1a"},
		{"the least member of two", 4, 3, "1a", 3, 0, join(14, 5, lay("4x")), join(14, 5, lay("3y")), "3y"},
		{"the least one, which came first", 4, 3, "1a", 0, 3, join(14, 5, lay("4x")), join(14, 5, lay("3y")), "4x"},
		{"a new node's is behind all", 3, 0, "", 0, 4, join(13, 0, nil), join(13, 1, nil), ""},
		{"nobody has one", 3, 0, "", 0, 4, join(13, 0, nil), join(13, 0, nil), ""},
	} {
		n := with(t, x.self, x.normal, x.own)
		view := 10 + x.self
		n.hears(x.first, x.one)
		n.has("P13.2: "+x.what+": one join", view, x.normal, true, 0, x.own)
		n.hears(x.second, x.other)
		n.has("P13.2: "+x.what, view, view, true, 0, x.want)
		n.sends("P13.2: "+x.what, others(x.self, 5, start(view, lay(x.want)))...)
		n.lasts(x.what)
	}
}

// What is committed at a start: nothing of what others have not said that they took, and no more than there is.
func TestWhatIsCommittedAtAStart(t *testing.T) {
	n := following(t, 2, 3, 4, "1a 1b 1c")
	n.hears(1, tell(4, 2))
	n.Lead(5)
	n.hears(0, join(5, 4, lay("1a 1b 1c 1d")))
	n.has("P13.2: commit stays", 5, 5, true, 2, "1a 1b 1c 1d")
	n.hears(0, ack(5, 4))
	n.has("P13.2: and goes on", 5, 5, true, 4, "1a 1b 1c 1d")
	n.Lead(8)
	n.hears(1, join(8, 6, lay("1a")))
	n.has("P13.4: a log is taken at a start that is shorter", 8, 8, true, 1, "1a")
	n.lasts("a shorter log at a start")
}

// An Ack ahead of the start counts for nothing.
func TestAcksAheadOfAStart(t *testing.T) {
	n := following(t, 2, 3, 4, "1a 1b")
	n.Lead(5)
	n.Out()
	n.hears(0, ack(5, 2))
	n.hears(1, ack(5, 2))
	n.has("P13.4: an Ack of one who asks", 5, 4, true, 0, "1a 1b")
	n.sends("P13.4: an Ack of one who asks")
	n.hears(1, join(5, 1, lay("1a")))
	n.has("P13.2: all acks are 0 but its own", 5, 5, true, 0, "1a 1b")
	n.sends("P13.2", others(2, 3, start(5, lay("1a 1b")))...)
	n.Nudge()
	n.reminds("P13.5: no Ack came since it started", others(2, 3, start(5, lay("1a 1b")), tell(5, 0))...)
}

// Acks of a view that is over are forgotten by the next start.
func TestAcksOfAViewThatIsOver(t *testing.T) {
	n := led(t, 2, 2, 5)
	n.offers("a", "b")
	n.hears(0, ack(2, 2))
	n.hears(1, ack(2, 1))
	n.has("P13.3", 2, 2, true, 1, "2a 2b")
	n.Lead(7)
	n.hears(3, join(7, 0, nil))
	n.hears(4, join(7, 0, nil))
	n.has("P13.2", 7, 7, true, 1, "2a 2b")
	n.Out()
	n.hears(3, ack(7, 2), ack(2, 2))
	n.hears(4, ack(2, 2), ack(8, 2), ack(12, 2))
	n.has("P13.2: acks of another view", 7, 7, true, 1, "2a 2b")
	n.sends("P13.4: acks of another view")
	n.hears(4, ack(7, 2))
	n.has("P13.2: acks of this one", 7, 7, true, 2, "2a 2b")
	n.sends("P13.3: a Tell", others(2, 5, tell(7, 2))...)
}

func TestOffer(t *testing.T) {
	n := fresh(t, 1, 3)
	not := func(what string) {
		t.Helper()
		p, q := n.Views()
		leads, commit, log := n.Leads(), n.Commit(), line(n.Log())
		n.Out()
		if n.Offer("no") {
			t.Errorf("P13.3: Offer of %s is true", what)
		}
		n.has("R2: an Offer that is false", p, q, leads, commit, log)
		n.sends("R2: an Offer that is false")
	}
	not("a new node")
	n.Lead(1)
	not("one who asks")
	n.hears(0, join(1, 0, nil))
	n.Out()
	n.offers("a")
	n.has("P13.3: it has started", 1, 1, true, 0, "1a")
	n.sends("P13.3: it has started", others(1, 3, put(1, 0, lay("1a")))...)
	n.lasts("an Offer")
	n.offers("b")
	n.sends("P13.3: just it", others(1, 3, put(1, 1, behind(1, "1b")))...)
	n.Lead(4)
	not("one who asks again")
	n.hears(2, join(4, 0, nil))
	n.Out()
	n.offers("")
	n.has("P13.3: in a later view", 4, 4, true, 0, "1a 1b 4")
	n.sends("P13.3: in a later view", others(1, 3, put(4, 2, behind(2, "4")))...)
	n.hears(2, ask(5))
	not("one who leads no more")
	n.hears(2, start(5, lay("4x")))
	not("one who follows")
	n = n.again()
	not("one who was opened again")
}

func TestBoundsOfOffer(t *testing.T) {
	n := led(t, 1, 1, 3)
	n.offers(long(mostBody), "\x00\xff"+long(mostBody-2), "")
	n.Out()
	for _, size := range []int{mostBody + 1, mostBody + 2, 1025, 70000} {
		if n.Offer(long(size)) {
			t.Errorf("P13.3: Offer of %d bytes is true", size)
		}
	}
	n.has("R2: a body that is too long", 1, 1, true, 0, "1"+long(mostBody)+" 1\x00\xff"+long(mostBody-2)+" 1")
	n.sends("R2: a body that is too long")
	for range mostEntries - 3 {
		n.offers("x")
	}
	n.Out()
	if n.Offer("x") || len(n.Log()) != mostEntries {
		t.Errorf("P13.3: Offer of entry 151; there are %d", len(n.Log()))
	}
	n.sends("R2: entry 151")
	n.hears(0, ack(1, 150))
	if n.Commit() != 150 {
		t.Errorf("P13.3: Commit is %d, not 150", n.Commit())
	}
	n = following(t, 1, 3, 3, many(mostEntries, 2)) // full already
	lead(n, 4)
	if n.Offer("x") {
		t.Error("P13.3: Offer of entry 151 in another view")
	}
}

// In each group: how many Acks it takes, and that the Tell goes out once.
func TestWhatIsCommittedInEachGroup(t *testing.T) {
	for _, many := range groups() {
		for self := range many {
			n := led(t, many+self, self, many)
			view := many + self
			n.offers("a", "b")
			n.Out()
			held := 1
			for k := range many {
				if k == self {
					continue
				}
				want := []sent{}
				n.hears(k, ack(view, 2))
				if held++; held == quorum(many) {
					want = others(self, many, tell(view, 2))
				}
				n.sends("P13.3: a Tell", want...)
				n.has("P13.3: what is committed", view, view, true, 2*min(1, held/quorum(many)), line(n.Log()))
			}
		}
	}
}

func TestWhatIsToldIsTheCallersOwn(t *testing.T) {
	n := led(t, 1, 1, 3)
	n.offers("a", "b")
	l := n.Log()
	l[0].Body, l[1].Number = "x", 9
	_ = append(l[:1], l[0])
	n.has("R6: Log", 1, 1, true, 0, "1a 1b")
	n.offers("c")
	m := n.Log()
	_ = append(m[:2], l[0])
	n.has("R6: Log", 1, 1, true, 0, "1a 1b 1c")
	if l[0].Body != "x" || len(l) != 2 {
		t.Error("R6: a Log that was told has changed")
	}
	first := n.Out()
	was := slices.Clone(first)
	n.Nudge()
	n.offers("d")
	second := n.Out()
	if !slices.Equal(first, was) {
		t.Error("R6: packets that were told have changed")
	}
	again := slices.Clone(second)
	for at := range first {
		first[at].Body = ""
	}
	if !slices.Equal(second, again) {
		t.Error("R6: packets that were told share memory")
	}
}
