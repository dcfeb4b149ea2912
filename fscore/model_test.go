package fscore_test

import (
	"fmt"
	"slices"
	"testing"

	"harpsichord/api"
	"harpsichord/fscore"
)

// player does calls by chance, always the same ones for a seed.
type player struct {
	*pair
	roll  func(n int) int
	names []string // those that are taken most often
	kinds []int    // those that are made most often
}

func play(p *pair, seed uint64, names, kinds int) *player {
	y := &player{pair: p, roll: dice(seed), kinds: []int{file, folder, link, folder}[:kinds]}
	for k := range names {
		y.names = append(y.names, fmt.Sprint("n", k*7%names))
	}
	return y
}

// anyHandle is one that was told, stale or not; rarely one that was never told.
func (y *player) anyHandle() handle {
	if y.roll(40) == 0 {
		return pick(y.roll, neverHad())
	}
	return pick(y.roll, y.seen)
}

// of is one of a kind that is there, most often; rarely any.
func (y *player) of(kind int) handle {
	for range 30 {
		if h := pick(y.roll, y.seen); y.w.kind(h) == kind && y.roll(25) > 0 {
			return h
		}
	}
	return y.anyHandle()
}

// anyName is one that is in a folder, or one that may be.
func (y *player) anyName(dir handle) string {
	switch l := y.w.in(dir); {
	case y.roll(60) == 0:
		return pick(y.roll, append(noNames(), points()...))
	case y.roll(60) == 0:
		return pick(y.roll, oddNames())
	case len(l) > 0 && y.roll(2) == 0:
		return pick(y.roll, l)
	}
	return pick(y.roll, y.names)
}

func (y *player) anyTime() int {
	if y.roll(30) == 0 {
		return pick(y.roll, noTimes())
	}
	return pick(y.roll, append(times(), y.roll(1000)))
}

// anyPlace is near the begin of a file most often.
func (y *player) anyPlace() int {
	switch y.roll(60) {
	case 0:
		return pick(y.roll, belowZero())
	case 1:
		return pick(y.roll, aboveFile())
	case 2:
		return mostFile - y.roll(40)
	}
	return y.roll(150)
}

func (y *player) anyMake() fscore.Make {
	m := fscore.Make{Kind: pick(y.roll, y.kinds), Mode: y.roll(4096), Time: y.anyTime()}
	if m.Kind == link {
		m.Target = long(1 + y.roll(100))
	}
	switch y.roll(80) {
	case 0:
		m.Kind = y.roll(8) - 2
	case 1:
		m.Mode = pick(y.roll, []int{-1, 4096, 5000})
	case 2:
		m.Target = long(y.roll(110))
	}
	return m
}

// act does a call that may change something.
func (y *player) act() api.Errno {
	y.t.Helper()
	dir := y.of(folder)
	name := y.anyName(dir)
	switch y.roll(12) {
	case 0, 1, 2:
		_, e := y.make(dir, name, y.anyMake())
		return e
	case 3:
		return y.link(y.of(pick(y.roll, []int{file, file, link, folder})), dir, name)
	case 4, 5:
		isFolder := y.w.kind(y.w.of(dir, name)) == folder
		return y.remove(dir, name, isFolder != (y.roll(15) == 0))
	case 6, 7, 8:
		to := y.of(folder)
		return y.rename(dir, name, to, y.anyName(to))
	case 9, 10:
		return y.write(y.of(file), y.anyPlace(), text(y.roll(70)), y.anyTime())
	}
	return y.cut(y.of(file), y.anyPlace(), y.anyTime())
}

// run does many calls, and asks behind each for all that is told; it tells how often there was which error.
func (y *player) run(calls int) map[api.Errno]int {
	y.t.Helper()
	n := map[api.Errno]int{}
	for range calls {
		n[y.act()]++
		y.same()
		y.reads(y.of(file), y.anyPlace(), y.anyPlace())
		if y.roll(10) == 0 {
			y.sound()
		}
		if len(y.seen) > 80 { // some of the stale ones are enough
			y.seen = slices.DeleteFunc(y.seen, func(h handle) bool { return y.w.stale(h) && y.roll(3) > 0 })
		}
	}
	y.sound()
	return n
}

func TestOfManyCalls(t *testing.T) {
	n := map[api.Errno]int{}
	for seed := range uint64(40) {
		y := play(begin(t, 5+int(seed)), seed, 3+int(seed)%6, 3+int(seed)%2)
		for e, many := range y.run(400) {
			n[e] += many
		}
	}
	for _, e := range []api.Errno{api.OK, api.ErrArg, api.ErrFsNone, api.ErrFsExists, api.ErrFsDir, api.ErrFsNotDir, api.ErrFsEmpty, api.ErrFsStale, api.ErrFsName, api.ErrFsSpace, api.ErrFsLoop} {
		if n[e] < 20 {
			t.Errorf("%d calls answered %d", n[e], e)
		}
	}
}

// Where two folders and a file have MaxLinks, or nearly so.
func TestOfManyCallsOnFullFolders(t *testing.T) {
	for seed := range uint64(10) {
		y := play(begin(t, 9), 100+seed, 60, 4)
		d, f := y.new(root, "d", folder), y.new(root, "f", file)
		n := map[api.Errno]int{}
		for range 250 {
			full := mostLinks - y.roll(2)
			for range 40 {
				dir := pick(y.roll, []handle{root, d})
				if y.w.links(dir) < full {
					y.make(dir, pick(y.roll, y.names), fscore.Make{Kind: folder})
				}
				if y.w.links(f) < full {
					y.link(f, dir, pick(y.roll, y.names))
				}
			}
			y.seen = append(y.seen[max(3, len(y.seen)-5):], root, d, f) // these are taken often
			n[y.act()]++
			y.same().sound()
		}
		if n[api.ErrFsLinks] < 8 {
			t.Errorf("seed %d: %d calls answered ErrFsLinks", seed, n[api.ErrFsLinks])
		}
	}
}

// Where there are MaxInodes inodes, or nearly so.
func TestOfManyCallsOnAllInodes(t *testing.T) {
	n := 0
	for seed := range uint64(5) {
		y := play(begin(t, 99), 200+seed, 60, 3)
		d := y.new(root, "d", folder)
		y.fill(d, file, 150)
		y.fill(root, link, 47)
		y.seen = slices.DeleteFunc(y.seen, func(h handle) bool { return y.w.kind(h) != folder && y.roll(5) > 0 })
		n += y.run(250)[api.ErrFsSpace]
	}
	if n < 40 {
		t.Errorf("%d calls answered ErrFsSpace", n)
	}
}

// Clones go on by themselves.
func TestOfManyCallsOnClones(t *testing.T) {
	for seed := range uint64(15) {
		y := play(begin(t, 20), 300+seed, 5, 3)
		y.run(60)
		l := []*player{y}
		for k := range 150 {
			if k%30 == 0 {
				y := l[y.roll(len(l))]
				l = append(l, play(y.clone(), 400+seed+uint64(k), 5, 4))
			}
			l[y.roll(len(l))].act()
			if k%5 == 0 {
				for _, y := range l {
					y.same().sound()
				}
			}
		}
	}
}

// R6: what is done to one file system is not seen at another.
func TestFileSystemsDoNotTouchEachOther(t *testing.T) {
	for seed := range uint64(10) {
		var l []*player
		for k := range uint64(4) {
			l = append(l, play(begin(t, 10*int(k)), 500+4*seed+k, 4, 3))
		}
		for k := range 200 {
			l[l[0].roll(4)].act()
			if k%5 == 0 {
				for _, y := range l {
					y.same().sound()
				}
			}
		}
	}
}

// R7: the same calls tell the same.
func TestTheSameCallsTellTheSame(t *testing.T) {
	story := func(seed uint64) []string {
		y := play(begin(t, 30), seed, 9, 3)
		var told []string
		for range 150 {
			told = append(told, fmt.Sprint(y.act()))
			told = append(told, tale(y.pair)...)
		}
		return told
	}
	for seed := range uint64(6) {
		first := story(seed)
		story(seed + 1)
		if !slices.Equal(first, story(seed)) {
			t.Errorf("R7: seed %d: the same calls tell something else", seed)
		}
	}
}

// R2: a call with an error changes nothing; nor do calls that look.
func TestCallsWithErrorsChangeNothing(t *testing.T) {
	for seed := range uint64(10) {
		y := play(begin(t, 12), 700+seed, 5, 3)
		refused := 0
		for range 300 {
			before := tale(y.pair)
			y.looks(y.anyHandle(), pick(y.roll, y.names))
			y.reads(y.anyHandle(), y.anyPlace(), y.anyPlace())
			seen := len(y.seen)
			if y.act() == api.OK || len(y.seen) > seen {
				continue
			}
			refused++
			if after := tale(y.pair); !slices.Equal(before, after) {
				y.fail("R2", "it was %q, and is %q", before, after)
			}
		}
		if refused < 30 {
			t.Errorf("seed %d: %d calls were refused", seed, refused)
		}
	}
}
