package volrep_test

import (
	"fmt"
	"math"
	"slices"
	"strings"
	"testing"

	"harpsichord/api"
	"harpsichord/fcall"
	"harpsichord/fscore"
	"harpsichord/order"
	"harpsichord/platter"
	"harpsichord/volrep"
)

// The bounds that the document names.
const (
	sectors     = 1100
	mostEntries = 150
	mostBody    = 200
	mostView    = 1 << 62
)

// room is that of all servers, but where another one is named.
const room = 20

// The kinds of inodes, and of calls.
const (
	file   = 1
	folder = 2

	kMake   = 1
	kLink   = 2
	kRemove = 3
	kRename = 4
	kWrite  = 5
	kCut    = 6
	kLook   = 7
	kRead   = 8
	kStat   = 9
	kList   = 10
	kTarget = 11
)

type (
	call   = fcall.Call
	answer = fcall.Answer
	handle = fscore.Handle
	reply  = volrep.Reply
)

// root is the handle of every root.
var root = handle{Id: 1, Gen: 1}

// server is one, and what it is of.
type server struct {
	*volrep.Server
	t          *testing.T
	disk       *platter.Disk
	self, many int
}

// on opens a server on a disk.
func on(t *testing.T, d *platter.Disk, self, many int) *server {
	t.Helper()
	s, e := volrep.Open(d, self, many, room)
	if e != api.OK || s == nil {
		t.Fatalf("P19.1: Open of member %d of %d is %d", self, many, e)
	}
	return &server{s, t, d, self, many}
}

// fresh is a server on a new disk.
func fresh(t *testing.T, self, many int) *server {
	t.Helper()
	return on(t, platter.New(sectors), self, many)
}

// again is the server that is found on what a crash leaves of the disk, of which all that waits is lost.
func (s *server) again() *server {
	s.t.Helper()
	return on(s.t, s.disk.Crash(0, 0), s.self, s.many)
}

// asking is a server who asks the others to join its first view.
func asking(t *testing.T, self, many int) *server {
	t.Helper()
	s := fresh(t, self, many)
	view := self
	if self == 0 {
		view = many
	}
	if !s.Lead(view) {
		t.Fatalf("P19.2: member %d of %d does not lead view %d", self, many, view)
	}
	s.Out()
	return s
}

// leads is a server who has started its first view, joined by all others with nothing; none of its messages is left.
func leads(t *testing.T, self, many int) *server {
	t.Helper()
	s := asking(t, self, many)
	view, _ := s.Node().Views()
	for k := range many {
		if k != self {
			s.hears(k, join(view, 0, nil))
		}
	}
	if _, normal := s.Node().Views(); normal != view || !s.Node().Leads() {
		t.Fatalf("P19.2: member %d of %d has not started view %d", self, many, view)
	}
	s.Out()
	return s
}

// follows is a server who took the log of a view's Primary; none of its messages is left.
func follows(t *testing.T, self, many, view int, l []api.Entry) *server {
	t.Helper()
	s := fresh(t, self, many)
	s.hears(view%many, start(view, l))
	if p, n := s.Node().Views(); p != view || n != view || s.Node().Leads() {
		t.Fatalf("P19.2: member %d of %d has not taken the log of view %d", self, many, view)
	}
	s.Out()
	return s
}

// waiting is member 1 of 3, who leads view 1, with an entry that is done, and behind that as many calls that wait: that of entry n is nth(n).
func waiting(t *testing.T, many int) *server {
	t.Helper()
	s := leads(t, 1, 3)
	s.asks(nth(1))
	s.hears(0, ack(1, 1))
	s.replies("P19.3: what a quorum has", done(1)...)
	for n := range many {
		s.asks(nth(n + 2))
	}
	s.replies("P19.2: they wait")
	s.Out()
	return s
}

// nth is a call that makes inode n + 1, if it is the n-th one.
func nth(n int) call {
	return makes(9, n, fmt.Sprint("n", n))
}

// done and lost are the replies to the calls of these entries.
func done(numbers ...int) []reply {
	var l []reply
	for _, n := range numbers {
		l = append(l, ok(nth(n), inode(n+1)))
	}
	return l
}

func lost(numbers ...int) []reply {
	var l []reply
	for _, n := range numbers {
		l = append(l, no(nth(n), api.ErrTimeout))
	}
	return l
}

// upTo are the numbers from one to another one.
func upTo(first, last int) []int {
	var l []int
	for n := first; n <= last; n++ {
		l = append(l, n)
	}
	return l
}

// hears takes messages of another member.
func (s *server) hears(from int, l ...order.Message) {
	s.t.Helper()
	for _, m := range l {
		s.Take(packet(s.t, from, s.self, m))
	}
}

// asks lets the server be asked, one behind the other.
func (s *server) asks(l ...call) {
	for _, c := range l {
		s.Ask(c)
	}
}

// replies asks that just these replies are told, and none once more.
func (s *server) replies(what string, want ...reply) {
	s.t.Helper()
	if l := s.Replies(); !slices.EqualFunc(l, want, alike) {
		s.t.Fatalf("%s: it replies %s, not %s", what, short(l), short(want))
	}
	if l := s.Replies(); len(l) != 0 {
		s.t.Fatalf("P19.4: %s: it replies %s once more", what, short(l))
	}
}

// sends asks that just these messages are sent, and none once more.
func (s *server) sends(what string, want ...api.Packet) {
	s.t.Helper()
	if l := s.Out(); !slices.Equal(l, want) {
		s.t.Fatalf("%s: it sends %s, not %s", what, shown(l), shown(want))
	}
	if l := s.Out(); len(l) != 0 {
		s.t.Fatalf("P19.4: %s: it sends %s once more", what, shown(l))
	}
}

// toOthers are the same messages to each other member, by rising members.
func (s *server) toOthers(l ...order.Message) []api.Packet {
	var all []api.Packet
	for to := range s.many {
		for _, m := range l {
			if to != s.self {
				all = append(all, packet(s.t, s.self, to, m))
			}
		}
	}
	return all
}

// one is the only reply that is told, when the server is asked.
func (s *server) one(c call) reply {
	s.t.Helper()
	s.Ask(c)
	l := s.Replies()
	if len(l) != 1 {
		s.t.Fatalf("P19.2: %s is replied %s", short(c), short(l))
	}
	return l[0]
}

// oks asks that a call is replied to at once with this answer.
func (s *server) oks(c call, a answer) {
	s.t.Helper()
	s.Ask(c)
	s.replies("P19.3: "+short(c), ok(c, a))
}

// refuses asks that a call is replied to at once by an error alone, and that nothing else is done.
func (s *server) refuses(what string, c call, e api.Errno) {
	s.t.Helper()
	was := s.picture()
	s.Ask(c)
	s.replies(what, no(c, e))
	s.sends("R2: " + what)
	if is := s.picture(); is != was {
		s.t.Fatalf("R2: %s: it has %s, not %s", what, short(is), short(was))
	}
}

// has asks how many entries were applied, and for the names in the root.
func (s *server) has(what string, applied int, names ...string) {
	s.t.Helper()
	if n := s.Applied(); n != applied {
		s.t.Fatalf("%s: %d entries were applied, not %d", what, n, applied)
	}
	if l, e := s.Table().Fs().List(root); e != api.OK || !slices.Equal(l, names) {
		s.t.Fatalf("%s: the root has %v, %d, not %v", what, l, e, names)
	}
}

// hasDone asks that the first entries of those that nth makes were applied.
func (s *server) hasDone(what string, applied int) {
	s.t.Helper()
	var names []string
	for n := range applied {
		names = append(names, fmt.Sprint("n", n+1))
	}
	slices.Sort(names)
	s.has(what, applied, names...)
}

// picture is all that a server has, but what it is to tell, and the calls that wait.
func (s *server) picture() string {
	return fmt.Sprint(ofNode(s.Node()), s.Node().Log(), s.Applied(), ofTable(s.Table()))
}

// ofNode is all that a node has, but its log.
func ofNode(n *order.Node) string {
	promised, normal := n.Views()
	return fmt.Sprint(promised, normal, n.Leads(), n.Commit(), n.Dead())
}

// ofFs is all that a file system tells.
func ofFs(fs *fscore.Fs) string {
	var l []string
	below(fs, root, "", &l)
	blocks, inodes := fs.Free()
	return strings.Join(append(l, fmt.Sprint(blocks, inodes)), "\n")
}

// ofTable is all that a table tells: its file system, and what was last done for the first clients.
func ofTable(x *fcall.Table) string {
	l := []string{ofFs(x.Fs())}
	for client := range 14 {
		number, a := x.Last(client)
		l = append(l, fmt.Sprintf("%d %+v", number, a))
	}
	return strings.Join(l, "\n")
}

// below notes an inode, and all that lies below it.
func below(fs *fscore.Fs, h handle, name string, l *[]string) {
	i, _ := fs.Stat(h)
	b, _ := fs.Read(h, 0, api.MaxFile)
	to, _ := fs.Target(h)
	*l = append(*l, fmt.Sprintf("%s %+v %q %s", name, i, b, to))
	names, _ := fs.List(h)
	for _, n := range names {
		in, _ := fs.Look(h, n)
		below(fs, in, name+"/"+n, l)
	}
}

// packet is a message on its way.
func packet(t *testing.T, from, to int, m order.Message) api.Packet {
	t.Helper()
	s, e := order.Encode(m)
	if e != api.OK {
		t.Fatalf("order.Encode(%s) is %d", short(m), e)
	}
	return api.Packet{From: from, To: to, Body: s}
}

// ok is the reply with the answer to a call; no, that of one that may not be done.
func ok(c call, a answer) reply {
	return reply{Client: c.Client, Number: c.Number, A: a}
}

func no(c call, e api.Errno) reply {
	return reply{Client: c.Client, Number: c.Number, Code: e}
}

// inode is the answer of a call that made, or found, inode n, whose number no other one had.
func inode(n int) answer {
	return answer{H: handle{Id: n, Gen: 1}}
}

func names(l ...string) answer {
	return answer{Names: l}
}

// makes, writes, looks, reads and lists are calls, with who asks ahead of what they use.
func makes(client, number int, name string) call {
	return call{Client: client, Number: number, Kind: kMake, H: root, Name: name, M: fscore.Make{Kind: file}}
}

func writes(client, number int, h handle, b string) call {
	return call{Client: client, Number: number, Kind: kWrite, H: h, B: b}
}

func looks(client, number int, name string) call {
	return call{Client: client, Number: number, Kind: kLook, H: root, Name: name}
}

func reads(client, number int, h handle) call {
	return call{Client: client, Number: number, Kind: kRead, H: h, N: 100}
}

func lists(client, number int) call {
	return call{Client: client, Number: number, Kind: kList, H: root}
}

// eleven are a call of each kind, one behind the other, of which each is done OK in a new table; their answers are those that fscore gives.
func eleven() ([]call, []answer) {
	h, to := handle{Id: 2, Gen: 1}, handle{Id: 3, Gen: 1}
	l := []call{
		{Kind: kMake, H: root, Name: "a", M: fscore.Make{Kind: file, Mode: 0o640, Time: 3}},
		{Kind: kMake, H: root, Name: "l", M: fscore.Make{Kind: 3, Target: "to/a"}},
		{Kind: kLink, H: h, G: root, Name: "b"},
		{Kind: kRename, H: root, Name: "b", G: root, Other: "c"},
		{Kind: kWrite, H: h, At: 2, B: "bytes", Time: 11},
		{Kind: kCut, H: h, N: 6, Time: 12},
		{Kind: kLook, H: root, Name: "c"},
		{Kind: kRead, H: h, At: 1, N: 100},
		{Kind: kStat, H: h},
		{Kind: kList, H: root},
		{Kind: kTarget, H: to},
		{Kind: kRemove, H: root, Name: "c"},
	}
	for k := range l {
		l[k].Client, l[k].Number = 12, 13+k
	}
	info := fscore.Info{Handle: h, Kind: file, Mode: 0o640, Links: 2, Size: 6, Blocks: 1, Time: 12}
	return l, []answer{{H: h}, {H: to}, {}, {}, {}, {}, {H: h}, {B: "\x00byte"}, {Info: info}, names("a", "c", "l"), {B: "to/a"}, {}}
}

// refused are calls that fcall.Encode refuses.
func refused() []call {
	l := []call{
		{},
		makes(0, 1, "a"),
		makes(1000001, 1, "a"),
		makes(-7, 1, "a"),
		makes(math.MinInt, math.MaxInt, "a"),
		makes(1, 0, "a"),
		makes(1, -1, "a"),
		makes(1, mostView+1, "a"),
		{Client: 1, Number: 1},
		{Client: 1, Number: 1, Kind: 12},
		{Client: 1, Number: 1, Kind: -1},
		{Client: 1, Number: 1, Kind: 256 + kList, H: root},
		{Client: 1, Number: 1, Kind: kRead, H: root, At: -1},
		{Client: 1, Number: 1, Kind: kRead, H: root, N: math.MinInt},
		{Client: 1, Number: 1, Kind: kList, H: handle{Id: mostView + 1}},
		{Client: 1, Number: 1, Kind: kList, H: root, Name: "x"},
		makes(1, 1, strings.Repeat("a", api.MaxText+1)),
		long(mostBody + 1),
	}
	other := makes(1, 1, "a")
	other.Folder = true
	return append(l, other)
}

// long is a call that is written in so many bytes.
func long(bytes int) call {
	c := writes(4, 5, root, "")
	b, _ := fcall.Encode(c)
	c.B = strings.Repeat("x", bytes-len(b))
	return c
}

// body is a call as that of an entry.
func body(t *testing.T, c call) string {
	t.Helper()
	b, e := fcall.Encode(c)
	if e != api.OK {
		t.Fatalf("fcall.Encode(%s) is %d", short(c), e)
	}
	return b
}

// entries are those of a view, behind so many others.
func entries(t *testing.T, behind, view int, l ...call) []api.Entry {
	t.Helper()
	var all []api.Entry
	for k, c := range l {
		all = append(all, api.Entry{View: view, Number: behind + k + 1, Body: body(t, c)})
	}
	return all
}

// junk is an entry of a view that is no call.
func junk(view, number int) api.Entry {
	return api.Entry{View: view, Number: number, Body: "none"}
}

func ask(view int) order.Message {
	return order.Message{Kind: 1, View: view}
}

func join(view, normal int, l []api.Entry) order.Message {
	return order.Message{Kind: 2, View: view, Normal: normal, L: l}
}

func start(view int, l []api.Entry) order.Message {
	return order.Message{Kind: 3, View: view, L: l}
}

func put(view, number int, l []api.Entry) order.Message {
	return order.Message{Kind: 4, View: view, Number: number, L: l}
}

func ack(view, number int) order.Message {
	return order.Message{Kind: 5, View: view, Number: number}
}

func tell(view, number int) order.Message {
	return order.Message{Kind: 6, View: view, Number: number}
}

// alike tells whether two replies are the same, and same whether two answers are; an empty list is as good as none.
func alike(a, b reply) bool {
	return a.Client == b.Client && a.Number == b.Number && a.Code == b.Code && same(a.A, b.A)
}

func same(a, b answer) bool {
	return a.Code == b.Code && a.H == b.H && a.B == b.B && a.Info == b.Info && slices.Equal(a.Names, b.Names)
}

// shown are messages as a text that can be read.
func shown(l []api.Packet) string {
	var b strings.Builder
	for _, p := range l {
		m, e := order.Decode(p.Body)
		fmt.Fprintf(&b, "%d to %d: %d %s; ", p.From, p.To, e, short(m))
	}
	return b.String()
}

// short is anything as a line that can be read, however long it is.
func short(x any) string {
	s := strings.ToValidUTF8(fmt.Sprintf("%+v", x), "?")
	return s[:min(len(s), 1200)]
}

// dice tells numbers below n, always the same ones for a seed.
func dice(seed uint64) func(n int) int {
	x := seed*0x9e3779b97f4a7c15 + 1
	return func(n int) int {
		x = x*6364136223846793005 + 1442695040888963407
		return int(x>>33) % n
	}
}

// pick is one of a list.
func pick[T any](roll func(int) int, l ...T) T {
	return l[roll(len(l))]
}

func count(is bool) int {
	if is {
		return 1
	}
	return 0
}

// content is all that was written last on a disk, of a dead one, too.
func content(d *platter.Disk) string {
	c := d.Crash(math.MaxInt, 0)
	var all strings.Builder
	for n := range c.Many() {
		b, _ := c.Read(n)
		all.Write(b)
	}
	return all.String()
}
