package fcall_test

import (
	"fmt"
	"slices"
	"testing"

	"harpsichord/api"
	"harpsichord/fcall"
)

// player does calls by chance, always the same ones for a seed.
type player struct {
	*pair
	roll    func(n int) int
	clients int
	seen    []handle
	told    []string // all that was answered
}

func play(p *pair, seed uint64, clients int) *player {
	return &player{pair: p, roll: dice(seed), clients: clients, seen: []handle{root, root, root}}
}

func (y *player) anyHandle() handle {
	if y.roll(30) == 0 {
		return handle{Id: y.roll(9), Gen: y.roll(9)}
	}
	return pick(y.roll, y.seen)
}

func (y *player) anyName() string {
	return pick(y.roll, []string{"a", "b", "c", "d", "e", "a", "b", "c", "d", ".", "..", "", "x/y", long(60), long(61)})
}

func (y *player) anyNumber() int {
	if y.roll(40) == 0 {
		return pick(y.roll, []int{-1, mostClock + 1, mostFile, mostFile + 1, 1 << 62, 1<<62 + 1})
	}
	return y.roll(60)
}

// anyCall is a call, most often one that has nothing but what its kind uses.
func (y *player) anyCall() call {
	c := makes(y.anyHandle(), y.anyName(), pick(y.roll, []int{file, folder, folder, link}))
	c.M.Mode, c.M.Time = y.roll(4100), y.anyNumber()
	c.Kind = 1 + y.roll(11)
	c.G, c.Other = y.anyHandle(), y.anyName()
	c.Folder = y.roll(2) == 0
	c.At, c.N, c.Time, c.B = y.anyNumber(), y.anyNumber(), y.anyNumber(), text(y.roll(60))
	if y.roll(15) > 0 {
		c = bare(c)
	}
	if y.roll(80) == 0 {
		c.Kind = pick(y.roll, []int{0, 12, -1, 1 + y.roll(11)})
	}
	c.Client = 1 + y.roll(y.clients)
	last, _ := y.x.Last(c.Client)
	switch y.roll(10) {
	case 0:
		c.Number = last
	case 1:
		c.Number = last - y.roll(4)
	case 2:
		c.Number = last + 1 + y.roll(5)
	default:
		c.Number = last + 1
	}
	return c
}

// run does many calls, each of which is done as it was written, too, and tells how often there was which error.
func (y *player) run(calls int) map[api.Errno]int {
	y.t.Helper()
	n := map[api.Errno]int{}
	for k := range calls {
		c := y.anyCall()
		s, e := fcall.Encode(c)
		if want, err := encode(c); s != want || e != err {
			y.fail("Encode(%s) is %q, %d, not %q, %d", short(c), s, e, want, err)
		}
		if e == api.OK {
			x, e := fcall.Decode(s)
			if e != api.OK || x != c {
				y.fail("Decode of Encode(%s) is %s, %d", short(c), short(x), e)
			}
			c = x
		}
		a := y.apply(c)
		n[a.Code]++
		y.told = append(y.told, fmt.Sprintf("%+v", a))
		if a.H.Id > 0 {
			y.seen = append(y.seen[max(0, len(y.seen)-20):], a.H, root)
		}
		if k%10 == 0 {
			y.same()
		}
	}
	y.same()
	return n
}

func TestOfManyCalls(t *testing.T) {
	n := map[api.Errno]int{}
	for seed := range uint64(50) {
		y := play(begin(t, 5+2*int(seed)), seed, 1+int(seed)%9)
		for e, many := range y.run(900) {
			n[e] += many
		}
	}
	for _, e := range []api.Errno{api.OK, api.ErrArg, api.ErrCallForm, api.ErrFsNone, api.ErrFsExists, api.ErrFsDir, api.ErrFsNotDir, api.ErrFsEmpty, api.ErrFsStale, api.ErrFsName, api.ErrFsLoop} {
		if n[e] < 20 {
			t.Errorf("%d calls answered %d", n[e], e)
		}
	}
}

// More clients than there may be.
func TestOfManyClients(t *testing.T) {
	for seed := range uint64(3) {
		n := play(begin(t, 50), 700+seed, 150).run(1500)
		if n[api.ErrArg] < 200 || n[api.OK] < 100 {
			t.Errorf("%v", n)
		}
	}
}

// Clones go on by themselves, and what they were cloned from does, too.
func TestOfManyClones(t *testing.T) {
	for seed := range uint64(6) {
		l := []*player{play(begin(t, 40), 300+seed, 5)}
		roll := dice(seed)
		for step := range 40 {
			y := pick(roll, l)
			if len(l) < 6 && step%4 == 0 {
				z := play(y.clone(), 900*seed+uint64(step), 6)
				z.seen = slices.Clone(y.seen)
				l = append(l, z)
			}
			y.run(20)
			for _, y := range l {
				y.same()
			}
		}
	}
}

// The same calls tell the same.
func TestSameAgain(t *testing.T) {
	for seed := range uint64(4) {
		var told [2][]string
		for k := range told {
			y := play(begin(t, 30), 40+seed, 4)
			y.run(300)
			told[k] = y.told
		}
		if !slices.Equal(told[0], told[1]) {
			t.Errorf("R7: %q, and then %q", told[0], told[1])
		}
	}
}
