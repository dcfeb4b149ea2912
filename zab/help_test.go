package zab_test

import (
	"fmt"
	"math"
	"slices"
	"strings"
	"testing"

	"harpsichord/api"
	"harpsichord/order"
	"harpsichord/platter"
	"harpsichord/zab"
	"harpsichord/zstate"
)

// The bounds that the document names.
const (
	sectors     = 1100
	mostEntries = 150
	mostBody    = 200
	mostSpan    = 1000    // of a timer
	mostLease   = 1000000 // of a lease's Span
	mostWatches = 500
	most        = 1 << 62
)

// server is one, and what it is of.
type server struct {
	*zab.Server
	t                *testing.T
	disk             *platter.Disk
	self, many, span int
}

// on opens a server on a disk.
func on(t *testing.T, d *platter.Disk, self, many, span int) *server {
	t.Helper()
	s, e := zab.Open(d, self, many, span)
	if e != api.OK || s == nil {
		t.Fatalf("P15.1: Open of member %d of %d, span %d, is %d", self, many, span, e)
	}
	return &server{s, t, d, self, many, span}
}

// fresh is a server on a new disk.
func fresh(t *testing.T, self, many, span int) *server {
	t.Helper()
	return on(t, platter.New(sectors), self, many, span)
}

// again is the server that is found on what a crash leaves of the disk, of which all that waits is lost.
func (s *server) again() *server {
	s.t.Helper()
	return on(s.t, s.disk.Crash(0, 0), s.self, s.many, s.span)
}

// leads is a server, with a span of 1, who has started its first view, joined by all others with nothing; none of its messages is left.
func leads(t *testing.T, self, many int) *server {
	t.Helper()
	s := fresh(t, self, many, 1)
	s.ticks(self + 2)
	s.joined()
	return s
}

// joined lets a server start the view for which it asks, joined by all others with nothing.
func (s *server) joined() {
	s.t.Helper()
	view, _ := s.Node().Views()
	for k := range s.many {
		if k != s.self {
			s.hears(k, join(view, 0, nil))
		}
	}
	if _, normal := s.Node().Views(); normal != view || view == 0 || !s.Node().Leads() {
		s.t.Fatalf("P15.3: member %d of %d has not started view %d", s.self, s.many, view)
	}
	s.Out()
}

// follows is a server, with a span of 1, who took the log of a view's Primary; none of its messages is left.
func follows(t *testing.T, self, many, view int, l []api.Entry) *server {
	t.Helper()
	s := fresh(t, self, many, 1)
	s.hears(view%many, start(view, l))
	if p, n := s.Node().Views(); p != view || n != view || s.Node().Leads() {
		t.Fatalf("P15.3: member %d of %d has not taken the log of view %d", self, many, view)
	}
	s.Out()
	return s
}

func (s *server) ticks(n int) {
	for range n {
		s.Tick()
	}
}

// ticksTillItLeads lets time go on till the server leads.
func (s *server) ticksTillItLeads() {
	s.t.Helper()
	for range 1000 {
		if s.Tick(); s.Node().Leads() {
			return
		}
	}
	s.t.Fatalf("P15.3: member %d of %d does not lead", s.self, s.many)
}

// hears takes messages of another member.
func (s *server) hears(from int, l ...order.Message) {
	s.t.Helper()
	for _, m := range l {
		s.Take(packet(s.t, from, s.self, m))
	}
}

// acked lets the first entries be acknowledged by so many other members as a quorum needs.
func (s *server) acked(number int) {
	s.t.Helper()
	view, _ := s.Node().Views()
	for k := range s.many/2 + 1 {
		if k != s.self {
			s.hears(k, ack(view, number))
		}
	}
}

// asks lets the server be asked, one behind the other.
func (s *server) asks(l ...zab.Request) {
	for _, r := range l {
		s.Ask(r)
	}
}

// answers asks that just these answers are told, and none once more.
func (s *server) answers(what string, want ...zab.Answer) {
	s.t.Helper()
	if l := s.Answers(); !slices.EqualFunc(l, want, alike) {
		s.t.Fatalf("%s: it answers %s, not %s", what, short(l), short(want))
	}
	if l := s.Answers(); len(l) != 0 {
		s.t.Fatalf("P15.5: %s: it answers %s once more", what, short(l))
	}
}

// tells asks that just these events are told, and none once more.
func (s *server) tells(what string, want ...api.Event) {
	s.t.Helper()
	if l := s.Events(); !slices.Equal(l, want) {
		s.t.Fatalf("%s: it tells %s, not %s", what, short(l), short(want))
	}
	if l := s.Events(); len(l) != 0 {
		s.t.Fatalf("P15.5: %s: it tells %s once more", what, short(l))
	}
}

// sends asks that just these messages are sent, and none once more.
func (s *server) sends(what string, want ...api.Packet) {
	s.t.Helper()
	if l := s.Out(); !slices.Equal(l, want) {
		s.t.Fatalf("%s: it sends %s, not %s", what, shown(l), shown(want))
	}
	if l := s.Out(); len(l) != 0 {
		s.t.Fatalf("P15.5: %s: it sends %s once more", what, shown(l))
	}
}

// says are the kinds of the messages that are sent.
func (s *server) says() []int {
	var kinds []int
	for _, p := range s.Out() {
		m, _ := order.Decode(p.Body)
		kinds = append(kinds, m.Kind)
	}
	return kinds
}

// one is the only answer that is told, when the server is asked.
func (s *server) one(r zab.Request) zab.Answer {
	s.t.Helper()
	s.Ask(r)
	l := s.Answers()
	if len(l) != 1 {
		s.t.Fatalf("P15.2: %s is answered %s", short(r), short(l))
	}
	return l[0]
}

// done lets a server alone do transactions, all of which are OK.
func (s *server) done(l ...zstate.Txn) {
	s.t.Helper()
	for _, x := range l {
		if a := s.one(write(0, 0, x)); a.Code != api.OK {
			s.t.Fatalf("P15.2: %s is answered %s", short(x), short(a))
		}
	}
}

// reads lets a server be asked for what it answers at once, all of which is OK.
func (s *server) reads(l ...zab.Request) {
	s.t.Helper()
	for _, r := range l {
		if a := s.one(r); a.Code != api.OK {
			s.t.Fatalf("P15.2: %s is answered %s", short(r), short(a))
		}
	}
}

// refuses asks that a request is answered at once by an error alone, and that nothing else is done.
func (s *server) refuses(what string, r zab.Request, e api.Errno) {
	s.t.Helper()
	was := s.picture()
	s.Ask(r)
	s.answers(what, zab.Answer{To: r.From, Number: r.Number, Code: e, Zxid: s.zxid()})
	s.sends("R2: " + what)
	s.tells("R2: " + what)
	if is := s.picture(); is != was {
		s.t.Fatalf("R2: %s: it has %s, not %s", what, short(is), short(was))
	}
}

// last is the transaction in the log's last entry.
func (s *server) last() zstate.Txn {
	s.t.Helper()
	l := s.Node().Log()
	if len(l) == 0 {
		s.t.Fatal("the log has no entry")
	}
	x, e := zstate.Decode([]byte(l[len(l)-1].Body))
	if e != api.OK {
		s.t.Fatalf("the log's last entry is %s", short(l[len(l)-1]))
	}
	return x
}

// offered asks that the log has so many entries, and this transaction in the last one.
func (s *server) offered(what string, entries int, x zstate.Txn) {
	s.t.Helper()
	if l := s.Node().Log(); len(l) != entries {
		s.t.Fatalf("%s: the log has %d entries, not %d", what, len(l), entries)
	}
	if is := s.last(); short(is) != short(x) {
		s.t.Fatalf("%s: it offered %s, not %s", what, short(is), short(x))
	}
}

func (s *server) zxid() int {
	return s.State().Zxid()
}

// isAt asks for the state's zxid.
func (s *server) isAt(what string, zxid int) {
	s.t.Helper()
	if is := s.zxid(); is != zxid {
		s.t.Fatalf("%s: the state's Zxid is %d, not %d", what, is, zxid)
	}
}

// sessions are those that have a lease.
func (s *server) sessions() []int {
	var ids []int
	for _, x := range s.State().Leases().All() {
		ids = append(ids, x.Id)
	}
	return ids
}

// picture is all that a server has, but what it is to tell, and the requests that wait.
func (s *server) picture() string {
	n := s.Node()
	promised, normal := n.Views()
	return fmt.Sprint(s.Now(), promised, normal, n.Leads(), n.Commit(), n.Log(), n.Dead(), strings.Join(s.State().Pack(), "|"))
}

// packet is a message on its way.
func packet(t *testing.T, from, to int, m order.Message) api.Packet {
	t.Helper()
	s, e := order.Encode(m)
	if e != api.OK {
		t.Fatalf("order.Encode(%s) is %d", short(m), e)
	}
	return api.Packet{From: from, To: to, Body: s}
}

// write is a request that writes; get and list are those that read.
func write(from, number int, x zstate.Txn) zab.Request {
	return zab.Request{From: from, Number: number, Kind: 1, T: x}
}

func get(path string) zab.Request {
	return zab.Request{Kind: 2, Path: path}
}

func list(path string) zab.Request {
	return zab.Request{Kind: 3, Path: path}
}

// watched is the same request with a watch for a session.
func watched(session int, r zab.Request) zab.Request {
	r.Watch, r.T.Session = true, session
	return r
}

// seen is the same request of one who has seen that much.
func seen(zxid int, r zab.Request) zab.Request {
	r.Seen = zxid
	return r
}

// reply is the answer with which a transaction is done; timeout, that of one that may not be done.
func reply(to, number, zxid int, r zstate.Reply) zab.Answer {
	return zab.Answer{To: to, Number: number, Code: r.Code, Zxid: zxid, Reply: r}
}

func timeout(to, number, zxid int) zab.Answer {
	return zab.Answer{To: to, Number: number, Code: api.ErrTimeout, Zxid: zxid}
}

// opening, renewal, closing, change and ending are transactions of the kinds 1 to 5.
func opening(span int) zstate.Txn {
	return zstate.Txn{Kind: 1, Span: span}
}

func renewal(session int) zstate.Txn {
	return zstate.Txn{Kind: 2, Session: session}
}

func closing(session int) zstate.Txn {
	return zstate.Txn{Kind: 3, Session: session}
}

func change(session, number int, l ...api.Change) zstate.Txn {
	return zstate.Txn{Kind: 4, Session: session, Number: number, L: l}
}

func ending(session, now int) zstate.Txn {
	return zstate.Txn{Kind: 5, Session: session, Now: now}
}

// at is the same transaction with another Now.
func at(now int, x zstate.Txn) zstate.Txn {
	x.Now = now
	return x
}

func create(path string) api.Change {
	return api.Change{Kind: api.Create, Path: path}
}

func ephemeral(path string) api.Change {
	return api.Change{Kind: api.Create, Path: path, Ephemeral: true}
}

func remove(path string) api.Change {
	return api.Change{Kind: api.Delete, Path: path, Version: -1}
}

func set(path, data string) api.Change {
	return api.Change{Kind: api.SetTo, Path: path, Data: data, Version: -1}
}

func event(session, kind int, path string) api.Event {
	return api.Event{Session: session, Kind: kind, Path: path}
}

// code, session and paths are replies.
func code(e api.Errno) zstate.Reply {
	return zstate.Reply{Code: e}
}

func session(id int) zstate.Reply {
	return zstate.Reply{Session: id}
}

func paths(l ...string) zstate.Reply {
	return zstate.Reply{Paths: l}
}

// body is a transaction as that of an entry.
func body(t *testing.T, x zstate.Txn) string {
	t.Helper()
	b, e := zstate.Encode(x)
	if e != api.OK {
		t.Fatalf("zstate.Encode(%s) is %d", short(x), e)
	}
	return string(b)
}

// made are entries of a view, behind so many others.
func made(t *testing.T, behind, view int, l ...zstate.Txn) []api.Entry {
	t.Helper()
	var all []api.Entry
	for k, x := range l {
		all = append(all, api.Entry{View: view, Number: behind + k + 1, Body: body(t, x)})
	}
	return all
}

func ask(view int) order.Message {
	return order.Message{Kind: 1, View: view}
}

func join(view, normal int, l []api.Entry) order.Message {
	return order.Message{Kind: 2, View: view, Normal: normal, L: l}
}

func start(view int, l []api.Entry) order.Message {
	return order.Message{Kind: 3, View: view, L: l}
}

func put(view, number int, l []api.Entry) order.Message {
	return order.Message{Kind: 4, View: view, Number: number, L: l}
}

func ack(view, number int) order.Message {
	return order.Message{Kind: 5, View: view, Number: number}
}

func tell(view, number int) order.Message {
	return order.Message{Kind: 6, View: view, Number: number}
}

// alike tells whether two answers are the same.
func alike(a, b zab.Answer) bool {
	return a.To == b.To && a.Number == b.Number && a.Code == b.Code && a.Zxid == b.Zxid &&
		a.Reply.Code == b.Reply.Code && a.Reply.Session == b.Reply.Session && slices.Equal(a.Reply.Paths, b.Reply.Paths) &&
		a.Node == b.Node && a.Is == b.Is && slices.Equal(a.Kids, b.Kids)
}

// shown are messages as a text that can be read.
func shown(l []api.Packet) string {
	var b strings.Builder
	for _, p := range l {
		m, e := order.Decode(p.Body)
		fmt.Fprintf(&b, "%d to %d: %d %s; ", p.From, p.To, e, short(m))
	}
	return b.String()
}

// short is anything as a line that can be read, however long it is.
func short(x any) string {
	s := strings.ToValidUTF8(fmt.Sprintf("%+v", x), "?")
	return s[:min(len(s), 1200)]
}

// dice tells numbers below n, always the same ones for a seed.
func dice(seed uint64) func(n int) int {
	x := seed*0x9e3779b97f4a7c15 + 1
	return func(n int) int {
		x = x*6364136223846793005 + 1442695040888963407
		return int(x>>33) % n
	}
}

// pick is one of a list.
func pick[T any](roll func(int) int, l ...T) T {
	return l[roll(len(l))]
}

func count(is bool) int {
	if is {
		return 1
	}
	return 0
}

// content is all that was written last on a disk, of a dead one, too.
func content(d *platter.Disk) string {
	c := d.Crash(math.MaxInt, 0)
	var all strings.Builder
	for n := range c.Many() {
		b, _ := c.Read(n)
		all.Write(b)
	}
	return all.String()
}
