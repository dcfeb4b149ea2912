package fscore_test

import (
	"bytes"
	"math"
	"slices"
	"testing"

	"harpsichord/api"
	"harpsichord/fscore"
)

// wrote asks that a Write answers just that.
func wrote(p *pair, h handle, at int, b []byte, time int, want api.Errno) {
	p.t.Helper()
	if e := p.write(h, at, b, time); e != want {
		p.fail("P17.5", "Write(%v, %d, %d bytes, %d) is %d, not %d", h, at, len(b), time, e, want)
	}
}

// cuts asks that a Cut answers just that.
func cuts(p *pair, h handle, n, time int, want api.Errno) {
	p.t.Helper()
	if e := p.cut(h, n, time); e != want {
		p.fail("P17.5", "Cut(%v, %d, %d) is %d, not %d", h, n, time, e, want)
	}
}

// refusesRead asks that a Read is refused, with no bytes.
func refusesRead(p *pair, h handle, at, n int, want api.Errno) {
	p.t.Helper()
	if b, e := p.f.Read(h, at, n); len(b) != 0 || e != want {
		p.fail("P17.5", "Read(%v, %d, %d) is %.70q, %d, not %d", h, at, n, b, e, want)
	}
}

// bytesAre asks for all bytes of a file, its Blocks and its Time.
func bytesAre(p *pair, h handle, want string, blocks, time int) {
	p.t.Helper()
	b, e := p.f.Read(h, 0, math.MaxInt)
	i, _ := p.f.Stat(h)
	if string(b) != want || e != api.OK || i.Size != len(want) || i.Blocks != blocks || i.Time != time {
		p.fail("P17.5", "Read(%v) is %.200q, %d, not %.200q; Stat is %+v, not %d blocks, Time %d", h, b, e, want, i, blocks, time)
	}
}

func TestReadWriteAndCut(t *testing.T) {
	p := begin(t, 9)
	h := p.new(root, "f", file)
	bytesAre(p, h, "", 0, 1)
	wrote(p, h, 2, []byte("abc"), 7, api.OK)
	bytesAre(p, h, "\x00\x00abc", 1, 7)
	wrote(p, h, 0, []byte("xyz"), 5, api.OK) // an earlier time is one as well
	bytesAre(p, h, "xyzbc", 1, 5)
	wrote(p, h, 33, []byte("d"), 6, api.OK)
	bytesAre(p, h, "xyzbc"+string(make([]byte, 28))+"d", 2, 6)
	cuts(p, h, 4, 9, api.OK)
	bytesAre(p, h, "xyzb", 1, 9)
	cuts(p, h, 6, 0, api.OK)
	bytesAre(p, h, "xyzb\x00\x00", 1, 0)
	for _, x := range []struct {
		at, n int
		want  string
	}{{0, 0, ""}, {0, 1, "x"}, {1, 2, "yz"}, {3, 9, "b\x00\x00"}, {5, 1, "\x00"}, {6, 1, ""}, {7, 0, ""}, {100, 100, ""}, {0, math.MaxInt, "xyzb\x00\x00"}, {math.MaxInt, math.MaxInt, ""}, {mostFile, 1, ""}, {mostFile + 1, 1, ""}} {
		if b, e := p.f.Read(h, x.at, x.n); string(b) != x.want || e != api.OK {
			t.Errorf("P17.5: Read(%d, %d) is %q, %d, not %q", x.at, x.n, b, e, x.want)
		}
	}
	cuts(p, h, 0, 3, api.OK)
	bytesAre(p, h, "", 0, 3)
	p.same().sound()
}

func TestReadWriteAndCutOfWhatIsNoFile(t *testing.T) {
	p := begin(t, 9)
	d, l := p.new(root, "d", folder), p.new(root, "l", link)
	empty := p.new(d, "empty", folder)
	for h, want := range map[handle]api.Errno{root: api.ErrFsDir, d: api.ErrFsDir, empty: api.ErrFsDir, l: api.ErrArg, {Id: 50, Gen: 1}: api.ErrFsStale, {Id: 2, Gen: 2}: api.ErrFsStale, none: api.ErrFsStale} {
		for _, n := range []int{0, 5, mostFile, mostFile + 1, -1, math.MinInt, math.MaxInt} {
			refusesRead(p, h, n, 5, want)
			refusesRead(p, h, 5, n, want)
			wrote(p, h, n, []byte("a"), 5, want)
			wrote(p, h, n, nil, 5, want)
			wrote(p, h, n, []byte("a"), -1, want)
			cuts(p, h, n, 5, want)
			cuts(p, h, n, -1, want)
		}
		wrote(p, h, 0, text(16*9+1), 5, want) // more than there is room for
	}
	p.same().sound()
}

func TestReadWriteAndCutBelow0(t *testing.T) {
	p := begin(t, 2)
	h := p.new(root, "f", file)
	wrote(p, h, 0, text(20), 3, api.OK)
	for _, low := range belowZero() {
		for _, n := range []int{0, 1, 20, math.MaxInt, -1, math.MinInt, -low} {
			refusesRead(p, h, low, n, api.ErrArg)
			refusesRead(p, h, n, low, api.ErrArg)
		}
		for _, time := range append(times(), noTimes()...) {
			wrote(p, h, low, nil, time, api.ErrArg)
			wrote(p, h, low, []byte("a"), time, api.ErrArg)
			wrote(p, h, low, text(40), time, api.ErrArg)
			cuts(p, h, low, time, api.ErrArg)
		}
	}
	bytesAre(p, h, string(text(20)), 2, 3)
	p.same().sound()
}

func TestTimesOfWriteAndCut(t *testing.T) {
	p := begin(t, 2)
	h := p.new(root, "f", file)
	for _, time := range times() {
		wrote(p, h, 0, text(20), time, api.OK)
		bytesAre(p, h, string(text(20)), 2, time)
		cuts(p, h, 20, mostClock-time, api.OK)
		bytesAre(p, h, string(text(20)), 2, mostClock-time)
		wrote(p, h, 30, nil, time, api.OK) // no byte
		bytesAre(p, h, string(text(20)), 2, time)
	}
	last, _ := p.f.Stat(h)
	for _, time := range noTimes() {
		wrote(p, h, 0, []byte("a"), time, api.ErrArg)
		wrote(p, h, 0, nil, time, api.ErrArg)
		wrote(p, h, 0, text(99), time, api.ErrArg) // ahead of ErrFsSpace
		wrote(p, h, mostFile, text(9), time, api.ErrArg)
		cuts(p, h, 0, time, api.ErrArg)
		cuts(p, h, mostFile+1, time, api.ErrArg)
		stats(t, p.f, last)
	}
	p.same().sound()
}

// A Write Needs just the blocks that are free, or one more.
func TestWriteOfWhatIsFree(t *testing.T) {
	for room := range 8 {
		p := begin(t, room)
		h, other := p.new(root, "f", file), p.new(root, "g", file)
		wrote(p, h, 0, text(16*room+1), 7, api.ErrFsSpace)
		if room > 0 {
			wrote(p, h, 5, text(16*room-4), 7, api.ErrFsSpace)
			wrote(p, h, 1, text(16*room), 7, api.ErrFsSpace)
			wrote(p, h, 15, text(16*room-13), 7, api.ErrFsSpace)
			bytesAre(p, h, "", 0, 1)
			wrote(p, h, 16*4, text(16*room), 8, api.OK)
		}
		frees(t, p.f, 0, 197)
		wrote(p, h, 0, []byte("a"), 9, api.ErrFsSpace)
		wrote(p, h, 16*(4+room), []byte("a"), 9, api.ErrFsSpace)
		wrote(p, h, 16*(4+room)-1, []byte("ab"), 9, api.ErrFsSpace)
		wrote(p, other, 16*4, []byte("a"), 9, api.ErrFsSpace)
		wrote(p, other, 16*4, nil, 9, api.OK)
		cuts(p, other, 99, 9, api.OK) // holes take no room
		frees(t, p.f, 0, 197)
		if room > 0 {
			wrote(p, h, 16*4, []byte("over"), 9, api.OK) // what is there needs none
			wrote(p, h, 16*(4+room)-1, []byte("z"), 10, api.OK)
		}
		p.same().sound()
	}
}

// A Write of which a part lies in blocks that are there needs but the others.
func TestWriteOverHolesAndBlocks(t *testing.T) {
	p := begin(t, 5)
	h := p.new(root, "f", file)
	for _, at := range []int{16, 48, 80} {
		wrote(p, h, at, text(1), 2, api.OK)
	}
	wrote(p, h, 0, text(80), 3, api.ErrFsSpace) // blocks 0, 2 and 4 are not there
	frees(t, p.f, 2, 198)
	wrote(p, h, 16, text(80), 4, api.OK) // 2 and 4
	frees(t, p.f, 0, 198)
	wrote(p, h, 15, text(2), 5, api.ErrFsSpace)
	wrote(p, h, 95, text(2), 5, api.ErrFsSpace)
	cuts(p, h, 50, 6, api.OK)
	frees(t, p.f, 2, 198)
	wrote(p, h, 0, text(81), 7, api.ErrFsSpace)
	wrote(p, h, 0, text(80), 8, api.OK)
	frees(t, p.f, 0, 198)
	p.same().sound()
}

// All files together have one room: what one has the others have not, till it is cut off, removed or renamed over.
func TestFilesShareTheRoom(t *testing.T) {
	p := begin(t, 10)
	d := p.new(root, "d", folder)
	a, b, c := p.new(root, "a", file), p.new(root, "b", file), p.new(d, "c", file)
	full := func() {
		t.Helper()
		frees(t, p.f, 0, 200-len(p.w.things))
		wrote(p, b, 999, []byte("x"), 4, api.ErrFsSpace)
		p.same().sound()
	}
	wrote(p, a, 0, text(64), 3, api.OK)
	wrote(p, b, 0, text(48), 3, api.OK)
	wrote(p, c, 0, text(64), 3, api.ErrFsSpace)
	wrote(p, c, 0, text(48), 3, api.OK)
	full()
	cuts(p, a, 32, 4, api.OK)
	wrote(p, b, 100, text(40), 5, api.ErrFsSpace) // three blocks
	wrote(p, b, 100, text(12), 5, api.OK)
	wrote(p, c, 48, text(16), 5, api.OK)
	full()
	linked(p, c, root, "c", api.OK)
	removed(p, d, "c", false, api.OK)
	full()
	removed(p, root, "c", false, api.OK)
	wrote(p, b, 200, text(60), 6, api.ErrFsSpace) // five blocks, of which four are free
	wrote(p, b, 192, text(64), 6, api.OK)
	full()
	renamed(p, root, "b", root, "a", api.OK)
	wrote(p, b, 300, text(17), 7, api.OK)
	full()
}

// A Write or a Cut beyond what a file can have.
func TestWriteAndCutAboveMaxFile(t *testing.T) {
	for _, room := range []int{0, 1, 2, 65536, math.MaxInt} {
		p := begin(t, room)
		h := p.new(root, "f", file)
		for _, n := range aboveFile() {
			wrote(p, h, n, nil, 5, api.ErrFsSpace)
			wrote(p, h, n, []byte("a"), 5, api.ErrFsSpace)
			cuts(p, h, n, 5, api.ErrFsSpace)
		}
		for _, more := range []int{1, 2, 16, 17, 40} {
			wrote(p, h, mostFile-more+1, text(more), 5, api.ErrFsSpace)
			wrote(p, h, mostFile, text(more), 5, api.ErrFsSpace)
		}
		bytesAre(p, h, "", 0, 1)
		wrote(p, h, mostFile, nil, 6, api.OK)
		bytesAre(p, h, "", 0, 6)
		if room > 0 {
			wrote(p, h, mostFile-16, text(16), 7, api.OK)
			bytesAre(p, h, string(make([]byte, mostFile-16))+string(text(16)), 1, 7)
		}
		cuts(p, h, mostFile, 8, api.OK)
		if i, _ := p.f.Stat(h); i.Size != mostFile || i.Time != 8 {
			t.Errorf("P17.5: Stat is %+v", i)
		}
		p.same().sound()
	}
}

// All of the greatest file, in a room that has just the blocks for it, and in one that has one less.
func TestWriteOfTheGreatestFile(t *testing.T) {
	all := text(mostFile)
	p := begin(t, 65536)
	h := p.new(root, "f", file)
	wrote(p, h, 0, slices.Concat(all, []byte("x")), 5, api.ErrFsSpace)
	wrote(p, h, 0, all, 5, api.OK)
	frees(t, p.f, 0, 198)
	bytesAre(p, h, string(all), 65536, 5)
	p = begin(t, 65535)
	h = p.new(root, "f", file)
	wrote(p, h, 0, all, 5, api.ErrFsSpace)
	frees(t, p.f, 65535, 198)
	bytesAre(p, h, "", 0, 1)
	wrote(p, h, 16, all[16:], 5, api.OK)
	frees(t, p.f, 0, 198)
}

// A name is as good as the other: what is written is read behind each.
func TestNamesOfOneFile(t *testing.T) {
	p := begin(t, 9)
	d := p.new(root, "d", folder)
	h := p.new(root, "a", file)
	linked(p, h, d, "b", api.OK)
	one, _ := p.f.Look(root, "a")
	wrote(p, one, 0, []byte("abc"), 4, api.OK)
	other, _ := p.f.Look(d, "b")
	bytesAre(p, other, "abc", 1, 4)
	removed(p, root, "a", false, api.OK)
	cuts(p, other, 2, 5, api.OK)
	bytesAre(p, h, "ab", 1, 5)
	p.same().sound()
}

// What one file has is none of another's.
func TestFilesOfTheirOwn(t *testing.T) {
	p := begin(t, 100)
	var l []handle
	for k := range 20 {
		l = append(l, p.new(root, string(rune('a'+k)), file))
	}
	for k, h := range l {
		wrote(p, h, k, bytes.Repeat([]byte{byte('a' + k)}, 20), 100+k, api.OK)
	}
	for k, h := range l {
		bytesAre(p, h, string(make([]byte, k))+string(bytes.Repeat([]byte{byte('a' + k)}, 20)), (k+19)/16-k/16+1, 100+k)
	}
	for k, h := range l {
		if k%2 == 0 {
			cuts(p, h, 0, 5, api.OK)
		}
	}
	p.same().sound()
}

func TestWhatIsReadIsInMemoryOfItsOwn(t *testing.T) {
	p := begin(t, 9)
	h := p.new(root, "f", file)
	wrote(p, h, 0, text(40), 5, api.OK)
	first, _ := p.f.Read(h, 0, 40)
	second, _ := p.f.Read(h, 0, 40)
	clear(second)
	if !bytes.Equal(first, text(40)) {
		t.Errorf("R6: Read is %q", first)
	}
	bytesAre(p, h, string(text(40)), 3, 5)
	wrote(p, h, 0, make([]byte, 40), 6, api.OK)
	if !bytes.Equal(first, text(40)) {
		t.Errorf("R6: what was read is %q", first)
	}
	p.same()
}

func TestWhatIsWrittenIsNotKept(t *testing.T) {
	for _, n := range []int{1, 15, 16, 17, 32, 40} {
		p := begin(t, 9)
		h := p.new(root, "f", file)
		b := text(n)
		wrote(p, h, 16, b, 5, api.OK)
		if !bytes.Equal(b, text(n)) {
			t.Errorf("R5: what was given is %q", b)
		}
		clear(b)
		bytesAre(p, h, string(make([]byte, 16))+string(text(n)), (n+15)/16, 5)
		wrote(p, h, 0, text(99)[:20], 6, api.OK)
		cuts(p, h, 3, 6, api.OK)
		p.same().sound()
	}
}

// A Write, and all else that changes a file, leaves what else it has as it was.
func TestWriteLeavesModeAndLinks(t *testing.T) {
	p := begin(t, 9)
	d, _ := p.make(root, "d", fscore.Make{Kind: 2, Mode: 0o711, Time: 3})
	h, _ := p.make(d, "f", fscore.Make{Kind: 1, Mode: 0o600, Time: 4})
	linked(p, h, root, "g", api.OK)
	wrote(p, h, 0, text(20), 50, api.OK)
	cuts(p, h, 19, 60, api.OK)
	stats(t, p.f, fscore.Info{Handle: h, Kind: 1, Mode: 0o600, Links: 2, Size: 19, Blocks: 2, Time: 60})
	stats(t, p.f, fscore.Info{Handle: d, Kind: 2, Mode: 0o711, Links: 2, Size: 1, Time: 3}) // nor is its folder's Time another one
	stats(t, p.f, fscore.Info{Handle: root, Kind: 2, Mode: 0o755, Links: 3, Size: 2})
	p.same().sound()
}
