package order_test

import (
	"fmt"
	"slices"
	"testing"

	"harpsichord/api"
	"harpsichord/order"
	"harpsichord/platter"
)

// model is a node by the chapter's words, one behind the other, without a disk.
type model struct {
	self, many       int
	promised, normal int
	log              []api.Entry
	commit           int
	leads, started   bool
	joins            map[int]order.Message
	acks             []int
	came             map[int]bool // Acks, since it started
	begun            []api.Entry
	out              []sent
}

func (m *model) toAll(x order.Message) {
	m.out = append(m.out, others(m.self, m.many, x)...)
}

func (m *model) back(to int, x order.Message) {
	m.out = append(m.out, sent{to, x})
}

func (m *model) behind(n int) order.Message {
	return put(m.promised, n, slices.Clone(m.log[n:]))
}

func (m *model) lead(view int) bool {
	if view <= m.promised || view > mostView || primary(view, m.many) != m.self {
		return false
	}
	m.promised, m.leads, m.started = view, true, false
	m.joins = map[int]order.Message{m.self: join(view, m.normal, slices.Clone(m.log))}
	m.toAll(ask(view))
	m.join()
	return true
}

func (m *model) join() {
	if len(m.joins) < quorum(m.many) {
		return
	}
	var best *order.Message
	for k := range m.many {
		if j, is := m.joins[k]; is && (best == nil || j.Normal > best.Normal || j.Normal == best.Normal && len(j.L) > len(best.L)) {
			best = &j
		}
	}
	m.started = true
	m.take(best.L)
	m.normal = m.promised
	m.begun = slices.Clone(m.log)
	m.acks = make([]int, m.many)
	m.acks[m.self] = len(m.log)
	m.came = map[int]bool{}
	m.toAll(start(m.promised, m.begun))
	m.look()
}

func (m *model) take(l []api.Entry) {
	m.log = slices.Clone(l)
	if m.commit > len(l) {
		m.commit = len(l)
	}
}

func (m *model) look() {
	held := 0
	for n := 1; n <= len(m.log); n++ {
		have := 0
		for _, a := range m.acks {
			if a >= n {
				have++
			}
		}
		if have >= quorum(m.many) {
			held = n
		}
	}
	if held > m.commit {
		m.commit = held
		m.toAll(tell(m.promised, held))
	}
}

func (m *model) offer(body string) bool {
	if !m.leads || !m.started || len(m.log) >= mostEntries || len(body) > mostBody {
		return false
	}
	m.log = append(m.log, api.Entry{View: m.promised, Number: len(m.log) + 1, Body: body})
	m.acks[m.self] = len(m.log)
	m.toAll(m.behind(len(m.log) - 1))
	m.look()
	return true
}

func (m *model) hear(from int, x order.Message) {
	of := primary(x.View, m.many)
	switch {
	case x.Kind == 1 && from == of:
		if x.View > m.promised {
			m.promised, m.leads = x.View, false
		}
		if x.View == m.promised && x.View > m.normal && !m.leads {
			m.back(from, join(x.View, m.normal, slices.Clone(m.log)))
		}
	case x.Kind == 2 && m.leads && !m.started && m.promised == x.View:
		if _, is := m.joins[from]; !is {
			m.joins[from] = x
		}
		m.join()
	case x.Kind == 3 && from == of:
		if x.View >= m.promised && x.View > m.normal {
			m.promised, m.normal, m.leads = x.View, x.View, false
			m.take(x.L)
		}
		if x.View == m.promised && x.View == m.normal {
			m.back(from, ack(x.View, len(m.log)))
		}
	case x.Kind == 4 && from == of && m.promised == x.View && m.normal == x.View && !m.leads:
		m.put(x.L)
		m.back(from, ack(x.View, len(m.log)))
	case x.Kind == 5 && m.leads && m.started && m.promised == x.View && x.Number <= len(m.log):
		m.acks[from] = max(m.acks[from], x.Number)
		m.came[from] = true
		m.look()
		if x.Number < len(m.log) {
			m.back(from, m.behind(x.Number))
		}
	case x.Kind == 6 && from == of && m.promised == x.View && m.normal == x.View && !m.leads:
		m.commit = max(m.commit, min(x.Number, len(m.log)))
	}
}

func (m *model) put(l []api.Entry) {
	for _, x := range l {
		fits := len(m.log) == 0 || x.View >= m.log[len(m.log)-1].View
		if x.Number == len(m.log)+1 && fits {
			m.log = append(m.log, x)
		} else if x.Number > len(m.log)+1 {
			return
		}
	}
}

func (m *model) nudge() {
	for k := range m.many {
		if !m.leads || k == m.self {
			continue
		}
		_, joined := m.joins[k]
		switch {
		case !m.started && !joined:
			m.back(k, ask(m.promised))
		case m.started && m.came[k]:
			m.back(k, m.behind(m.acks[k]))
			m.back(k, tell(m.promised, m.commit))
		case m.started:
			m.back(k, start(m.promised, m.begun))
			m.back(k, tell(m.promised, m.commit))
		}
	}
}

// opened is the node behind a crash: what lasts.
func (m *model) opened() *model {
	return &model{self: m.self, many: m.many, promised: m.promised, normal: m.normal, log: m.log}
}

// pair is a node, and the model of it.
type pair struct {
	*member
	m    *model
	roll func(int) int
}

// near is a view that is of interest to the node.
func (p *pair) near() int {
	roll := p.roll
	view := pick(roll, p.m.promised, p.m.promised, p.m.promised, p.m.promised+1, p.m.promised+1+roll(p.many), p.m.normal, p.m.promised-1-roll(3), 1+roll(p.m.promised+3))
	return min(max(view, 1), mostView)
}

// entries are some behind those that the node has first, with Views from a least one to a greatest one.
func (p *pair) entries(first, many, least, most int) []api.Entry {
	var l []api.Entry
	for k := range many {
		if least > most || first+k >= mostEntries {
			break
		}
		least = pick(p.roll, least, least, most, least+p.roll(most-least+1))
		l = append(l, api.Entry{View: least, Number: first + k + 1, Body: string(rune('a' + p.roll(26)))})
	}
	return l
}

// some is a log with Views to a greatest one: it begins as the node's does, as often as not.
func (p *pair) some(most int) []api.Entry {
	at, least := p.roll(len(p.m.log)+1), 1
	l := slices.Clone(p.m.log[:at])
	if p.roll(4) == 0 || at > 0 && l[at-1].View > most {
		l, at = nil, 0
	}
	if at > 0 {
		least = l[at-1].View
	}
	return append(l, p.entries(at, p.roll(4), least, most)...)
}

// waited is the kind of a message that a node has a use for.
func (p *pair) waited() int {
	switch {
	case p.m.leads && p.m.started:
		return 5
	case p.m.leads:
		return 2
	case p.m.normal < p.m.promised:
		return 3
	}
	return pick(p.roll, 4, 4, 6)
}

// message is one that the node may be sent.
func (p *pair) message() order.Message {
	view := p.near()
	length := len(p.m.log)
	number := min(max(pick(p.roll, length, length, p.roll(length+1), length+1+p.roll(3), 0), 0), mostEntries)
	kind := 1 + p.roll(6)
	if p.roll(3) > 0 && p.m.promised > 0 { // one for which the node waits
		kind, view = p.waited(), p.m.promised
	}
	switch kind {
	case 1:
		return ask(view)
	case 2:
		normal := pick(p.roll, p.roll(view), min(p.m.normal, view-1), view-1, 0)
		return join(view, normal, p.some(normal))
	case 3:
		return start(view, p.some(view-1))
	case 4:
		least := 1
		if length > 0 && p.roll(3) > 0 {
			least = p.m.log[length-1].View
		}
		return put(view, number, p.entries(number, p.roll(5), least, view))
	case 5:
		return ack(view, number)
	}
	return tell(view, number)
}

// hearing lets both be sent a message, of its view's Primary as a rule.
func (p *pair) hearing() string {
	x := p.message()
	from := pick(p.roll, primary(x.View, p.many), primary(x.View, p.many), primary(x.View, p.many), p.roll(p.many+2)-1)
	if x.Kind == 2 || x.Kind == 5 {
		from = p.roll(p.many)
	}
	p.hears(from, x)
	if from >= 0 && from < p.many && from != p.self {
		p.m.hear(from, x)
	}
	return fmt.Sprint("from ", from, ": ", short(x))
}

// leading lets both lead a view.
func (p *pair) leading() string {
	view := p.m.promised + 1 + p.roll(p.many)
	if p.roll(3) > 0 {
		for primary(view, p.many) != p.self {
			view++
		}
	}
	view = pick(p.roll, view, view, view, view, p.m.promised, p.near(), mostView+1)
	if is, want := p.Lead(view), p.m.lead(view); is != want {
		p.t.Fatalf("P13.2: Lead(%d) is %v", view, is)
	}
	return fmt.Sprint("Lead(", view, ")")
}

// offering lets both be offered an entry.
func (p *pair) offering() string {
	body := pick(p.roll, "x", "y", "", long(mostBody), long(mostBody+1))
	if is, want := p.Offer(body), p.m.offer(body); is != want {
		p.t.Fatalf("P13.3: Offer(%s) is %v", short(body), is)
	}
	return fmt.Sprintf("Offer of %d bytes", len(body))
}

// sent asks that both have sent the same.
func (p *pair) sent(what string) {
	p.t.Helper()
	p.sends("P13.5: "+what, p.m.out...)
	p.m.out = nil
}

// nudging lets both send again. (What else was to be sent is taken first: the order of what goes to several members is said of each one alone.)
func (p *pair) nudging() string {
	p.sent("ahead of a Nudge")
	p.Nudge()
	p.m.nudge()
	p.reminds("P13.5: Nudge", p.m.out...)
	p.m.out = nil
	return "Nudge"
}

// reopening lets both go on with what lasts.
func (p *pair) reopening() string {
	p.sent("ahead of Open")
	d := p.disk.Crash(p.roll(3)*1000, 0)
	p.member, p.m = on(p.t, d, p.self, p.many), p.m.opened()
	return "Open"
}

// step does something, and holds the node against the model.
func (p *pair) step() {
	p.t.Helper()
	var what string
	switch at := p.roll(100); {
	case at < 62:
		what = p.hearing()
	case at < 72:
		what = p.leading()
	case at < 90:
		what = p.offering()
	case at < 96:
		what = p.nudging()
	case at < 97:
		what = p.reopening()
	default:
		what = "Out"
		p.sent(what)
	}
	p.has("behind "+what, p.m.promised, p.m.normal, p.m.leads, p.m.commit, line(p.m.log))
	if p.roll(4) == 0 {
		p.sent(what)
		p.lasts(what)
	}
}

// Of many mixed calls: all that a node has, sends, and lets last.
func TestManyMixedCalls(t *testing.T) {
	started, committed, deposed := 0, 0, 0
	for seed := range uint64(140) {
		roll := dice(seed)
		many := 1 + int(seed)%7
		self := roll(many)
		p := &pair{fresh(t, self, many), &model{self: self, many: many}, roll}
		if seed%5 == 4 && many > 1 { // a log that is all but full
			view := 20*many + (self+1)%many
			l := p.entries(0, mostEntries-4, 1, view-1)
			p.hears((self+1)%many, start(view, l))
			p.m.hear((self+1)%many, start(view, l))
		}
		for range 400 {
			led, commit := p.m.leads && p.m.started, p.m.commit
			p.step()
			now := p.m.leads && p.m.started
			started += count(now && !led)
			deposed += count(led && !now)
			committed += count(p.m.commit > commit)
		}
	}
	if started < 1000 || committed < 1000 || deposed < 1000 {
		t.Errorf("too little was done: %d, %d, %d", started, committed, deposed)
	}
}

func count(is bool) int {
	if is {
		return 1
	}
	return 0
}

// walk does many calls at one node, and tells all that was told.
func walk(seed uint64) []string {
	roll := dice(seed)
	d := platter.New(sectors)
	n, _ := order.Open(d, 1, 3)
	p := &pair{&member{n, nil, d, 1, 3}, &model{self: 1, many: 3, promised: 3}, roll}
	var told []string
	for range 400 {
		s, _ := order.Encode(p.message())
		n.Take(api.Packet{From: roll(3), To: 1, Body: s})
		is, did := n.Lead(roll(40)), n.Offer("x")
		if roll(5) == 0 {
			n.Nudge()
		}
		v, w := n.Views()
		p.m.promised, p.m.normal, p.m.log = max(v, 1), w, n.Log()
		told = append(told, fmt.Sprint(is, did, v, w, n.Leads(), n.Commit(), n.Log(), n.Out()))
	}
	return append(told, content(d))
}

func TestTheSameCallsTellTheSame(t *testing.T) {
	for seed := range uint64(4) {
		first := walk(seed)
		walk(seed + 1) // other calls make no difference
		if again := walk(seed); !slices.Equal(first, again) {
			t.Errorf("R7: seed %d: the same calls tell others", seed)
		}
	}
}
