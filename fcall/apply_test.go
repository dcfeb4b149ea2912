package fcall_test

import (
	"fmt"
	"math"
	"slices"
	"testing"

	"harpsichord/api"
	"harpsichord/fcall"
	"harpsichord/fscore"
)

func TestExamples(t *testing.T) {
	p := begin(t, 9)
	first := of(call{Kind: 1, H: root, Name: "a", M: fscore.Make{Kind: 1}})
	for range 2 {
		if a := p.apply(first); !same(a, answer{H: handle{Id: 2, Gen: 1}}) {
			t.Errorf("P18.2: %s", short(a))
		}
	}
	p.is(with(1, 0, call{Kind: kStat, H: root}), api.ErrCallForm)
	p.is(with(1, 1, call{Kind: 12}), api.ErrCallForm)
	p.same()
}

func TestNew(t *testing.T) {
	for _, room := range []int{0, 1, 9, -1, math.MaxInt, math.MinInt} {
		p := begin(t, room)
		p.same()
		blocks, inodes := p.x.Fs().Free()
		if blocks != max(room, 0) || inodes != api.MaxInodes-1 {
			t.Errorf("P18.2: New(%d) has room for %d blocks, %d inodes", room, blocks, inodes)
		}
		for _, client := range []int{0, 1, 2, -1, mostClient, math.MaxInt, math.MinInt} {
			p.last(client)
		}
		c := &client{pair: p, id: 3}
		h := c.new(root, "a", file)
		c.apply(c.next(writes(h, 0, "a")))
		c.apply(c.next(writes(h, 16, "a")))
		c.same()
	}
}

// A call of each kind, what it answers, and what is there behind it.
func TestEachKind(t *testing.T) {
	x, a, b, c, d := filled(t)
	want := func(what string, a, want answer) {
		t.Helper()
		if !same(a, want) {
			t.Errorf("P18.2: %s: %s, not %s", what, short(a), short(want))
		}
		x.same()
	}
	do := func(y call) answer {
		t.Helper()
		return x.apply(x.next(y))
	}
	want("Make", do(call{Kind: 1, H: root, Name: "e", M: fscore.Make{Kind: 2, Mode: 7, Time: 9}}), answer{H: handle{Id: 6, Gen: 1}})
	want("Link", do(call{Kind: 2, H: a, G: b, Name: "f"}), answer{})
	want("Remove", do(call{Kind: 3, H: root, Name: "e", Folder: true}), answer{})
	want("Remove", do(call{Kind: 3, H: root, Name: "a"}), answer{})
	want("Rename", do(call{Kind: 4, H: b, Name: "f", G: root, Other: "g"}), answer{})
	want("Write", do(call{Kind: 5, H: c, At: 2, B: "xyz", Time: 8}), answer{})
	want("Cut", do(call{Kind: 6, H: c, N: 4, Time: 9}), answer{})
	want("Look", do(call{Kind: 7, H: b, Name: "c"}), answer{H: c})
	want("Look", do(call{Kind: 7, H: b, Name: ".."}), answer{H: root})
	want("Look", do(call{Kind: 7, H: b, Name: "."}), answer{H: b})
	want("Read", do(call{Kind: 8, H: c, At: 1, N: 2}), answer{B: "\x00x"})
	want("Read", do(call{Kind: 8, H: c, At: 4, N: 2}), answer{})
	want("Read", do(call{Kind: 8, H: a, At: 0, N: 100}), answer{B: text(40)})
	want("Stat", do(call{Kind: 9, H: c}), answer{Info: fscore.Info{Handle: c, Kind: 1, Mode: 0o640, Links: 1, Size: 4, Blocks: 1, Time: 9}})
	want("Stat", do(call{Kind: 9, H: root}), answer{Info: fscore.Info{Handle: root, Kind: 2, Mode: 0o755, Links: 3, Size: 3}})
	want("List", do(call{Kind: 10, H: root}), answer{Names: []string{"b", "d", "g"}})
	want("List", do(call{Kind: 10, H: b}), answer{Names: []string{"c"}})
	want("Target", do(call{Kind: 11, H: d}), answer{B: "to/d"})
	want("Make", do(call{Kind: 1, H: b, Name: "e", M: fscore.Make{Kind: 3, Target: "x"}}), answer{H: handle{Id: 6, Gen: 2}})
}

// Of each kind errors of fscore's, which are answered without anything else, and are the last ones.
func TestErrors(t *testing.T) {
	x, a, b, c, d := filled(t)
	stale := handle{Id: 9, Gen: 1}
	l := []struct {
		c call
		e api.Errno
	}{
		{makes(stale, "x", file), api.ErrFsStale},
		{makes(a, "x", file), api.ErrFsNotDir},
		{makes(root, "x/y", file), api.ErrFsName},
		{makes(root, long(61), file), api.ErrFsName},
		{makes(root, "x", 4), api.ErrArg},
		{call{Kind: kMake, H: root, Name: "x", M: fscore.Make{Kind: 3}}, api.ErrArg},
		{call{Kind: kMake, H: root, Name: "x", M: fscore.Make{Kind: 1, Mode: -1}}, api.ErrArg},
		{call{Kind: kMake, H: root, Name: "x", M: fscore.Make{Kind: 1, Time: mostClock + 1}}, api.ErrArg},
		{makes(root, "a", file), api.ErrFsExists},
		{call{Kind: kLink, H: a, G: stale, Name: "x"}, api.ErrFsStale},
		{call{Kind: kLink, H: root, G: a, Name: "x"}, api.ErrFsNotDir},
		{call{Kind: kLink, H: b, G: root, Name: "x"}, api.ErrFsDir},
		{call{Kind: kLink, H: a, G: root, Name: "d"}, api.ErrFsExists},
		{call{Kind: kRemove, H: root, Name: "x"}, api.ErrFsNone},
		{call{Kind: kRemove, H: root, Name: "b"}, api.ErrFsDir},
		{call{Kind: kRemove, H: root, Name: "b", Folder: true}, api.ErrFsEmpty},
		{call{Kind: kRemove, H: root, Name: "a", Folder: true}, api.ErrFsNotDir},
		{call{Kind: kRename, H: root, Name: "b", G: b, Other: "x"}, api.ErrFsLoop},
		{call{Kind: kRename, H: root, Name: "x", G: b, Other: "y"}, api.ErrFsNone},
		{call{Kind: kRename, H: root, Name: "a", G: root, Other: "b"}, api.ErrFsDir},
		{call{Kind: kRename, H: root, Name: "a", G: c, Other: "b"}, api.ErrFsNotDir},
		{writes(root, 0, "x"), api.ErrFsDir},
		{writes(d, 0, "x"), api.ErrArg},
		{writes(a, -1, "x"), api.ErrArg},
		{writes(a, mostFile, "x"), api.ErrFsSpace},
		{call{Kind: kWrite, H: a, B: "x", Time: -1}, api.ErrArg},
		{call{Kind: kCut, H: a, N: -1}, api.ErrArg},
		{call{Kind: kCut, H: a, N: mostFile + 1}, api.ErrFsSpace},
		{call{Kind: kCut, H: a, Time: math.MaxInt}, api.ErrArg},
		{call{Kind: kCut, H: b}, api.ErrFsDir},
		{call{Kind: kLook, H: root, Name: "x"}, api.ErrFsNone},
		{call{Kind: kLook, H: root}, api.ErrFsName},
		{call{Kind: kRead, H: a, At: -1}, api.ErrArg},
		{call{Kind: kRead, H: a, N: -1}, api.ErrArg},
		{call{Kind: kRead, H: a, N: math.MinInt}, api.ErrArg},
		{call{Kind: kRead, H: b, N: 1}, api.ErrFsDir},
		{call{Kind: kStat, H: stale}, api.ErrFsStale},
		{call{Kind: kStat}, api.ErrFsStale},
		{call{Kind: kList, H: a}, api.ErrFsNotDir},
		{call{Kind: kTarget, H: a}, api.ErrArg},
		{call{Kind: kTarget, H: handle{Id: math.MinInt, Gen: math.MaxInt}}, api.ErrFsStale},
	}
	was := tree(x.x.Fs())
	for k, y := range l {
		done := x.next(y.c)
		for range 2 {
			x.is(done, y.e)
		}
		if n, a := x.x.Last(1); n != k+6 || !same(a, answer{Code: y.e}) {
			t.Errorf("P18.2: Last is %d, %s", n, short(a))
		}
	}
	if is := tree(x.x.Fs()); !slices.Equal(is, was) {
		t.Errorf("P18.2: errors changed %q to %q", was, is)
	}
}

// An error is the answer again, though the call would be done now.
func TestErrorStays(t *testing.T) {
	x, _, _, _, _ := filled(t)
	refused := x.next(makes(root, "a", file))
	x.is(refused, api.ErrFsExists)
	x.ok(with(2, 1, call{Kind: kRemove, H: root, Name: "a"}))
	x.is(refused, api.ErrFsExists)
	x.is(with(1, refused.Number, makes(root, "new", file)), api.ErrFsExists)
	x.same()
	x.ok(x.next(makes(root, "a", file)))
	x.same()
}

// What was answered is the answer again, though it would be another one now, and though another call is under the number.
func TestAnswerStays(t *testing.T) {
	x, a, b, _, d := filled(t)
	other := &client{pair: x.pair, id: 7}
	stays := func(c call, change call) {
		t.Helper()
		was := x.ok(c)
		other.ok(other.next(change))
		if now := x.apply(c); !same(now, was) {
			t.Errorf("P18.3: %s, and then %s", short(was), short(now))
		}
		for _, under := range []call{makes(root, "under", file), writes(a, 0, "under"), {Kind: kRemove, H: root, Name: "d"}, {Kind: kStat, H: b}, {Kind: kStat}, {Kind: kTarget, H: d}} {
			if now := x.apply(with(c.Client, c.Number, under)); !same(now, was) {
				t.Errorf("P18.3: %s, and then %s", short(was), short(now))
			}
		}
		x.same()
	}
	stays(x.next(call{Kind: kStat, H: a}), writes(a, 100, "x"))
	stays(x.next(call{Kind: kRead, H: a, N: 9}), writes(a, 0, "new"))
	stays(x.next(call{Kind: kList, H: b}), makes(b, "new", folder))
	stays(x.next(call{Kind: kLook, H: b, Name: "new"}), call{Kind: kRemove, H: b, Name: "new", Folder: true})
	stays(x.next(call{Kind: kTarget, H: d}), makes(root, "e", file))
	stays(x.next(writes(a, 0, "mine")), writes(a, 0, "his"))
	stays(x.next(makes(b, "f", file)), call{Kind: kRemove, H: b, Name: "f"})
}

// What was done for a number is not done again, by each kind that changes something.
func TestDoneOnce(t *testing.T) {
	for k, c := range []call{
		{Kind: kMake, H: root, Name: "x", M: fscore.Make{Kind: 1}},
		{Kind: kLink, H: handle{Id: 2, Gen: 1}, G: root, Name: "x"},
		{Kind: kRemove, H: root, Name: "a"},
		{Kind: kRename, H: root, Name: "a", G: handle{Id: 3, Gen: 1}, Other: "x"},
		{Kind: kWrite, H: handle{Id: 2, Gen: 1}, At: 3, B: "x", Time: 77},
		{Kind: kCut, H: handle{Id: 2, Gen: 1}, N: 3, Time: 77},
	} {
		x, _, _, _, _ := filled(t)
		empty := tree(x.x.Fs())
		done := x.next(c)
		x.ok(done)
		was := tree(x.x.Fs())
		if slices.Equal(was, empty) {
			t.Errorf("%d changes nothing", k)
		}
		for range 3 {
			x.ok(done)
			if is := tree(x.x.Fs()); !slices.Equal(is, was) {
				t.Errorf("P18.3: %q, done again %q", was, is)
			}
		}
		other := &client{pair: x.pair, id: 2}
		other.ok(other.next(call{Kind: kRename, H: root, Name: "d", G: root, Other: "a"})) // so that it would do something else
		was = tree(x.x.Fs())
		x.ok(done)
		if is := tree(x.x.Fs()); !slices.Equal(is, was) {
			t.Errorf("P18.3: %q, done again %q", was, is)
		}
		x.same()
	}
}

// What only reads changes the last answer alone.
func TestReadsChangeNothing(t *testing.T) {
	x, a, b, _, d := filled(t)
	was := tree(x.x.Fs())
	for _, c := range []call{
		{Kind: kLook, H: root, Name: "a"}, {Kind: kLook, H: root, Name: "none"}, {Kind: kLook, H: root, Name: ".."},
		{Kind: kRead, H: a, N: 20}, {Kind: kRead, H: a, At: 100, N: 1 << 40}, {Kind: kRead, H: b},
		{Kind: kStat, H: b}, {Kind: kStat}, {Kind: kList, H: root}, {Kind: kList, H: a}, {Kind: kTarget, H: d}, {Kind: kTarget, H: b},
	} {
		if !fcall.Reads(c.Kind) {
			t.Error(c)
		}
		done := x.next(c)
		a := x.apply(done)
		if is := tree(x.x.Fs()); !slices.Equal(is, was) {
			t.Errorf("P18.3: %s changed %q to %q", short(c), was, is)
		}
		if n, last := x.x.Last(1); n != done.Number || !same(last, a) {
			t.Errorf("P18.3: behind %s Last is %d, %s", short(c), n, short(last))
		}
	}
}

// Read of more than 1000 bytes.
func TestLongRead(t *testing.T) {
	x, a, _, _, _ := filled(t)
	x.ok(x.next(writes(a, 0, text(1500))))
	for _, at := range []int{0, 1, 499, 500, 501, 999, 1499, 1500, 5000} {
		for _, n := range []int{0, 1, 999, 1000, 1001, 1500, 5000, 1 << 40, math.MaxInt} {
			got := x.ok(x.next(call{Kind: kRead, H: a, At: at, N: n}))
			end := min(1500, at+min(n, 1000))
			if want := text(1500)[min(at, 1500):max(end, min(at, 1500))]; got.B != want {
				t.Errorf("P18.2: Read at %d of %d is %d bytes, not %d", at, n, len(got.B), len(want))
			}
		}
	}
	x.ok(x.next(call{Kind: kCut, H: a, N: mostFile}))
	if got := x.ok(x.next(call{Kind: kRead, H: a, At: 1500, N: mostFile})); len(got.B) != 1000 {
		t.Errorf("P18.2: Read is %d bytes", len(got.B))
	}
}

// List of more than 50 names.
func TestLongList(t *testing.T) {
	x := &client{pair: begin(t, 9), id: 1}
	var names []string
	for k := range 60 {
		name := fmt.Sprintf("n%02d", k*7%60)
		x.new(root, name, file)
		names = append(names, name)
		slices.Sort(names)
		done := x.next(call{Kind: kList, H: root})
		for range 2 {
			if got := x.ok(done); !slices.Equal(got.Names, names[:min(50, len(names))]) {
				t.Errorf("P18.2: of %d names List is %q", len(names), got.Names)
			}
		}
		if got := x.ok(x.next(call{Kind: kStat, H: root})); got.Info.Size != k+1 {
			t.Errorf("P18.2: Stat is %s", short(got))
		}
	}
}

// A call of more than 200 bytes, or with fields that pack refuses, is done all the same.
func TestLongCalls(t *testing.T) {
	x, a, b, _, _ := filled(t)
	for _, n := range []int{149, 150, 200, mostText, mostText + 1, 3000} {
		c := x.next(writes(a, 0, text(n)))
		x.ok(c)
		if _, e := fcall.Encode(c); (e == api.OK) != (n < 150) {
			t.Errorf("P18.1: Encode of %d bytes: %d", n, e)
		}
		if i := x.ok(x.next(call{Kind: kStat, H: a})).Info; i.Size != max(n, 40) {
			t.Errorf("P18.2: %d bytes, not %d", i.Size, n)
		}
	}
	name, target := long(60), long(100)
	c := x.next(call{Kind: kMake, H: b, Name: name, M: fscore.Make{Kind: link, Target: target}})
	x.ok(c)
	if _, e := fcall.Encode(c); e != api.ErrCallForm {
		t.Errorf("P18.1: it is written: %d", e)
	}
	x.is(x.next(makes(b, long(5000), file)), api.ErrFsName)
	x.same()
}

func TestNumbersOfAClient(t *testing.T) {
	x, a, b, _, _ := filled(t) // with numbers 1 to 5
	for n := 1; n < 5; n++ {
		x.is(with(1, n, makes(root, "x", file)), api.ErrArg)
		x.is(with(1, n, call{Kind: kStat, H: root}), api.ErrArg)
		x.is(with(1, n, call{Kind: kStat}), api.ErrArg)
	}
	x.same()
	x.ok(with(1, 9, makes(root, "x", file))) // leaves some out
	for _, n := range []int{1, 5, 6, 7, 8} {
		x.is(with(1, n, makes(root, "y", file)), api.ErrArg)
	}
	x.ok(with(1, 9, makes(root, "y", file)))
	x.is(with(1, 10, call{Kind: kLook, H: root, Name: "y"}), api.ErrFsNone)
	x.is(with(1, 9, makes(root, "x", file)), api.ErrArg)
	x.ok(with(1, 1<<40, writes(a, 0, "x")))
	x.ok(with(1, mostNumber-1, writes(a, 0, "y")))
	x.ok(with(1, mostNumber, writes(a, 0, "z")))
	x.is(with(1, mostNumber-1, writes(a, 0, "y")), api.ErrArg)
	x.is(with(1, mostNumber+1, writes(a, 0, "u")), api.ErrCallForm)
	x.ok(with(1, mostNumber, writes(a, 0, "v")))
	if got := x.ok(with(2, mostNumber, call{Kind: kRead, H: a, N: 1})); got.B != "z" {
		t.Errorf("P18.2: the file is %q", got.B)
	}
	x.ok(with(3, 77, call{Kind: kList, H: b})) // a client's first number may be any
	x.is(with(3, 76, call{Kind: kList, H: b}), api.ErrArg)
	x.same()
}

// Two clients have their numbers each by itself.
func TestTwoClients(t *testing.T) {
	p := begin(t, 9)
	ids := []int{1, 2, mostClient}
	for n := 1; n < 5; n++ {
		for _, id := range ids {
			p.ok(with(id, n, makes(root, fmt.Sprint(id, " ", n), file)))
		}
		for _, id := range ids {
			p.ok(with(id, n, makes(root, fmt.Sprint(id, " again ", n), file)))
		}
		p.same()
	}
	p.ok(with(2, 100, call{Kind: kStat, H: root}))
	p.ok(with(1, 5, makes(root, "five", file)))
	p.is(with(2, 5, makes(root, "six", file)), api.ErrArg)
	p.same()
	if got := p.ok(with(2, 101, call{Kind: kStat, H: root})); got.Info.Size != 13 {
		t.Errorf("P18.2: %d names", got.Info.Size)
	}
}

func TestHundredClients(t *testing.T) {
	p := begin(t, 9)
	for k := range mostClients {
		if k%3 == 0 {
			p.is(with(10+k, 5, call{Kind: kStat}), api.ErrFsStale) // it is a client's all the same
		} else {
			p.ok(with(10+k, 5, call{Kind: kStat, H: root}))
		}
		p.is(with(10+k, 4, call{Kind: kStat, H: root}), api.ErrArg)
	}
	for _, id := range []int{1, 9, 110, 111, mostClient} {
		p.is(with(id, 5, makes(root, "x", file)), api.ErrArg)
		p.is(with(id, 5, makes(root, "x", file)), api.ErrArg)
		p.is(with(id, mostNumber, call{Kind: kStat, H: root}), api.ErrArg)
		if n, a := p.x.Last(id); n != 0 || !same(a, answer{}) {
			t.Errorf("P18.2: Last(%d) is %d, %s", id, n, short(a))
		}
	}
	p.same()
	for k := range mostClients {
		p.apply(with(10+k, 5, makes(root, "again", file)))
		p.ok(with(10+k, 6, makes(root, fmt.Sprint(k), file)))
	}
	p.same()
	if got := p.ok(with(10, 7, call{Kind: kStat, H: root})); got.Info.Size != 100 {
		t.Errorf("P18.2: %d names", got.Info.Size)
	}
}

// Calls that are refused make nobody a client.
func TestRefusedClients(t *testing.T) {
	p := begin(t, 9)
	for k := range 2 * mostClients {
		p.is(with(1000+k, 1, call{Kind: kStat, H: root, N: 1}), api.ErrCallForm)
		p.is(with(1000+k, 0, call{Kind: kStat, H: root}), api.ErrCallForm)
	}
	for k := range mostClients - 1 {
		p.ok(with(1+k, 1, call{Kind: kStat, H: root}))
	}
	p.is(with(1500, 1, call{Kind: 12}), api.ErrCallForm)
	p.ok(with(1500, 1, call{Kind: kStat, H: root}))
	p.is(with(1501, 1, call{Kind: kStat, H: root}), api.ErrArg)
	p.same()
}

// A number that is refused is not the last one, and neither is what was asked under it.
func TestRefusedIsNotTheLast(t *testing.T) {
	x, a, _, _, _ := filled(t)
	last := x.next(call{Kind: kRead, H: a, N: 3})
	want := x.ok(last)
	for _, c := range []call{with(1, 2, call{Kind: kStat, H: root}), with(1, 5, writes(a, 0, "x")), with(1, 7, call{Kind: 12}), with(1, 7, call{Kind: kStat, H: root, B: "x"}), with(1, 0, call{})} {
		if e := x.apply(c).Code; e != api.ErrArg && e != api.ErrCallForm {
			t.Errorf("P18.2: %s is %d", short(c), e)
		}
		if n, got := x.x.Last(1); n != 6 || !same(got, want) {
			t.Errorf("P18.2: Last is %d, %s", n, short(got))
		}
		if got := x.apply(last); !same(got, want) {
			t.Errorf("P18.2: the last one is %s", short(got))
		}
	}
	x.same()
}
