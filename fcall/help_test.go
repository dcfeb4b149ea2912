package fcall_test

import (
	"fmt"
	"slices"
	"strings"
	"testing"

	"harpsichord/api"
	"harpsichord/fcall"
	"harpsichord/fscore"
)

// root is the handle of every root.
var root = handle{Id: 1, Gen: 1}

// pair is a table, and words to which the same is done.
type pair struct {
	t    *testing.T
	x    *fcall.Table
	w    *words
	done []string // the last calls
}

func begin(t *testing.T, room int) *pair {
	t.Helper()
	x := fcall.New(room)
	if x == nil {
		t.Fatal("P18.2: New is nothing")
	}
	return &pair{t: t, x: x, w: newWords(room)}
}

// fail tells what was done last, and what is wrong.
func (p *pair) fail(format string, args ...any) {
	p.t.Helper()
	p.t.Fatalf("P18.2: behind %s: %s", strings.Join(p.done, ", "), fmt.Sprintf(format, args...))
}

// apply does a call, and asks what it answers, and that this is the last one where the words say so.
func (p *pair) apply(c call) answer {
	p.t.Helper()
	p.done = append(p.done[max(0, len(p.done)-10):], short(c))
	a, want := p.x.Apply(c), p.w.apply(c)
	if !same(a, want) {
		p.fail("it answers %s, not %s", short(a), short(want))
	}
	p.last(c.Client)
	return a
}

// ok is apply of a call that is needed for others.
func (p *pair) ok(c call) answer {
	p.t.Helper()
	a := p.apply(c)
	if a.Code != api.OK {
		p.fail("it is refused: %d", a.Code)
	}
	return a
}

// is is apply of a call whose error is known.
func (p *pair) is(c call, e api.Errno) {
	p.t.Helper()
	if a := p.apply(c); a.Code != e || e != api.OK && !same(a, answer{Code: e}) {
		p.fail("it answers %s, not %d", short(a), e)
	}
}

// last asks what was last done for a client.
func (p *pair) last(client int) {
	p.t.Helper()
	n, a := p.x.Last(client)
	if want := p.w.last[client]; n != want.number || !same(a, want.a) {
		p.fail("Last(%d) is %d, %s, not %d, %s", client, n, short(a), want.number, short(want.a))
	}
}

// same asks for all that is told: of all clients, of some others, and of the file system.
func (p *pair) same() {
	p.t.Helper()
	for client := range p.w.last {
		p.last(client)
		p.last(client + 1)
		p.last(-client)
	}
	p.last(0)
	fs := p.x.Fs()
	if fs == nil {
		p.fail("Fs is nothing")
	}
	if is, want := tree(fs), tree(p.w.fs); !slices.Equal(is, want) {
		p.fail("there is %q, not %q", is, want)
	}
}

// clone is another pair, which goes on by itself.
func (p *pair) clone() *pair {
	p.t.Helper()
	x := p.x.Clone()
	if x == nil {
		p.fail("Clone is nothing")
	}
	return &pair{p.t, x, p.w.clone(), slices.Concat(p.done, []string{"Clone"})}
}

// tree is all that a file system tells, with what the next inodes would be.
func tree(fs *fscore.Fs) []string {
	var l []string
	below(fs, fs.Root(), "", &l)
	blocks, inodes := fs.Free()
	l = append(l, fmt.Sprint(blocks, inodes))
	fs = fs.Clone()
	for k := range 5 {
		h, e := fs.Make(root, fmt.Sprint("next ", k), fscore.Make{Kind: file})
		l = append(l, fmt.Sprint(h, e))
	}
	return l
}

// below notes an inode, and all that lies below it.
func below(fs *fscore.Fs, h handle, name string, l *[]string) {
	i, _ := fs.Stat(h)
	b, _ := fs.Read(h, 0, mostFile)
	to, _ := fs.Target(h)
	*l = append(*l, fmt.Sprintf("%s %+v %q %s", name, i, b, to))
	names, _ := fs.List(h)
	for _, n := range names {
		in, _ := fs.Look(h, n)
		below(fs, in, name+"/"+n, l)
	}
}

// same tells whether two answers are; an empty list is as good as none.
func same(a, b answer) bool {
	return a.Code == b.Code && a.H == b.H && a.B == b.B && a.Info == b.Info && slices.Equal(a.Names, b.Names)
}

// short is what fits into a line.
func short(x any) string {
	return fmt.Sprintf("%.300s", fmt.Sprintf("%+v", x))
}

// long is a text of n bytes.
func long(n int) string {
	return strings.Repeat("x", n)
}

// text are n bytes, of which those that stand near each other differ.
func text(n int) string {
	b := make([]byte, n)
	for i := range b {
		b[i] = byte(1 + i%251)
	}
	return string(b)
}

// with is a call of a client, with a number.
func with(client, number int, c call) call {
	c.Client, c.Number = client, number
	return c
}

// of is a call of client 1, number 1.
func of(c call) call {
	return with(1, 1, c)
}

// makes is the call that makes an inode of a kind.
func makes(dir handle, name string, kind int) call {
	c := call{Kind: kMake, H: dir, Name: name, M: fscore.Make{Kind: kind, Mode: 0o640, Time: 3}}
	if kind == link {
		c.M.Target = "to/" + name
	}
	return c
}

// writes is the call that writes to a file.
func writes(h handle, at int, b string) call {
	return call{Kind: kWrite, H: h, At: at, B: b, Time: 5}
}

// client does calls, each with the next number.
type client struct {
	*pair
	id, number int
}

func (c *client) next(x call) call {
	c.number++
	return with(c.id, c.number, x)
}

// new makes an inode, and tells its handle.
func (c *client) new(dir handle, name string, kind int) handle {
	c.t.Helper()
	return c.ok(c.next(makes(dir, name, kind))).H
}

// filled is a table whose client 1 made a file a of some bytes, a folder b with a file c in it, and a symbolic link d.
func filled(t *testing.T) (x *client, a, b, c, d handle) {
	t.Helper()
	x = &client{pair: begin(t, 1000), id: 1}
	a = x.new(root, "a", file)
	x.ok(x.next(writes(a, 0, text(40))))
	b = x.new(root, "b", folder)
	c = x.new(b, "c", file)
	d = x.new(root, "d", link)
	return
}

// eleven are a call of each kind, none of whose fields is zero that the kind uses; all numbers differ.
func eleven() []call {
	h, g := handle{Id: 2, Gen: 3}, handle{Id: 4, Gen: 5}
	m := fscore.Make{Kind: 6, Mode: 7, Time: 8, Target: "target"}
	l := []call{
		{H: h, Name: "name", M: m},
		{H: h, G: g, Name: "name"},
		{H: h, Name: "name", Folder: true},
		{H: h, Name: "name", G: g, Other: "other"},
		{H: h, At: 9, B: "bytes", Time: 11},
		{H: h, N: 10, Time: 11},
		{H: h, Name: "name"},
		{H: h, At: 9, N: 10},
		{H: h},
		{H: h},
		{H: h},
	}
	for k := range l {
		l[k].Client, l[k].Number, l[k].Kind = 12, 13, k+1
	}
	return l
}

// field is one of a call's: its name, and what lets it be another number, or a text of so many bytes.
type field struct {
	name string
	put  func(c *call, n int)
}

// wholes are those whose fields are Wholes, but for Client and Number.
func wholes() []field {
	return []field{
		{"H.Id", func(c *call, n int) { c.H.Id = n }},
		{"H.Gen", func(c *call, n int) { c.H.Gen = n }},
		{"G.Id", func(c *call, n int) { c.G.Id = n }},
		{"G.Gen", func(c *call, n int) { c.G.Gen = n }},
		{"M.Kind", func(c *call, n int) { c.M.Kind = n }},
		{"M.Mode", func(c *call, n int) { c.M.Mode = n }},
		{"M.Time", func(c *call, n int) { c.M.Time = n }},
		{"At", func(c *call, n int) { c.At = n }},
		{"N", func(c *call, n int) { c.N = n }},
		{"Time", func(c *call, n int) { c.Time = n }},
	}
}

// texts are those whose fields are Texts.
func texts() []field {
	return []field{
		{"Name", func(c *call, n int) { c.Name = long(n) }},
		{"Other", func(c *call, n int) { c.Other = long(n) }},
		{"M.Target", func(c *call, n int) { c.M.Target = long(n) }},
		{"B", func(c *call, n int) { c.B = long(n) }},
	}
}

// used are the names of the fields that each kind uses, as the chapter's table has them.
func used(kind int) string {
	return []string{
		"", "H.Id H.Gen Name M.Kind M.Mode M.Time M.Target", "H.Id H.Gen G.Id G.Gen Name", "H.Id H.Gen Name Folder", "H.Id H.Gen Name G.Id G.Gen Other",
		"H.Id H.Gen At B Time", "H.Id H.Gen N Time", "H.Id H.Gen Name", "H.Id H.Gen At N", "H.Id H.Gen", "H.Id H.Gen", "H.Id H.Gen",
	}[kind]
}

func uses(kind int, name string) bool {
	return slices.Contains(strings.Fields(used(kind)), name)
}

// dice tells numbers below n, always the same ones for a seed.
func dice(seed uint64) func(n int) int {
	x := seed
	return func(n int) int {
		x = x*6364136223846793005 + 1442695040888963407
		return int(x>>33) % n
	}
}

// pick is one of a list.
func pick[T any](roll func(int) int, l []T) T {
	return l[roll(len(l))]
}
