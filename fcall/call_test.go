package fcall_test

import (
	"math"
	"testing"

	"harpsichord/api"
	"harpsichord/fcall"
)

// asked asks Encode of a call, and Apply, which says nothing of its length, nor of what pack refuses.
func asked(t *testing.T, what string, c call) {
	t.Helper()
	s, e := fcall.Encode(c)
	if want, err := encode(c); s != want || e != err {
		t.Errorf("P18.1: %s: Encode(%s) is %q, %d, not %q, %d", what, short(c), s, e, want, err)
	}
	p := begin(t, 9)
	if a := p.apply(c); (a.Code != api.ErrCallForm) != isCall(c) {
		t.Errorf("P18.2: %s: Apply(%s) is %s", what, short(c), short(a))
	}
	p.same()
}

// noCall asks that neither Encode nor Apply takes it.
func noCall(t *testing.T, what string, c call) {
	t.Helper()
	if isCall(c) {
		t.Errorf("%s: %s is a call", what, short(c))
	}
	asked(t, what, c)
}

// isOne asks that Encode takes it, and Apply.
func isOne(t *testing.T, what string, c call) {
	t.Helper()
	if _, e := encode(c); e != api.OK {
		t.Errorf("%s: %s is not written: %d", what, short(c), e)
	}
	asked(t, what, c)
}

func TestClients(t *testing.T) {
	for _, c := range eleven() {
		for _, n := range []int{1, 2, 255, 256, 65536, mostClient - 1, mostClient} {
			c.Client = n
			isOne(t, "a client", c)
		}
		for _, n := range []int{0, -1, -mostClient, mostClient + 1, mostClient + 2, 1 << 32, 1<<32 + 1, 1 << 62, math.MaxInt, math.MinInt, math.MinInt + 1} {
			c.Client = n
			noCall(t, "no client", c)
		}
	}
}

func TestNumbers(t *testing.T) {
	for _, c := range eleven() {
		for _, n := range []int{1, 2, mostClient + 1, 1 << 32, 1<<32 + 1, mostNumber - 1, mostNumber} {
			c.Number = n
			isOne(t, "a number", c)
		}
		for _, n := range []int{0, -1, -mostNumber, mostNumber + 1, mostNumber + 2, math.MaxInt, math.MinInt, math.MinInt + 1} {
			c.Number = n
			noCall(t, "no number", c)
		}
	}
}

func TestKinds(t *testing.T) {
	for k, c := range eleven() {
		if c.Kind != k+1 {
			t.Fatal(c)
		}
		isOne(t, "a kind", c)
		for _, kind := range []int{0, -1, -c.Kind, 12, 13, 255, 256, 256 + c.Kind, c.Kind - 256, 1<<32 + c.Kind, math.MaxInt, math.MinInt} {
			c.Kind = kind
			noCall(t, "no kind", c)
			noCall(t, "no kind, and nothing else", call{Client: 1, Number: 1, Kind: kind})
		}
	}
	for kind := range 12 {
		asked(t, "a call of zeros", call{Client: 1, Number: 1, Kind: kind})
	}
	noCall(t, "nothing", call{})
}

// Each field, not zero alone, of each kind: a call if it is used.
func TestWhatAKindUses(t *testing.T) {
	many := 0
	ask := func(name string, full, alone call) {
		t.Helper()
		if uses(full.Kind, name) {
			many++
			if !isCall(full) || !isCall(alone) {
				t.Errorf("kind %d uses %s", full.Kind, name)
			}
		} else if isCall(full) || isCall(alone) {
			t.Errorf("kind %d does not use %s", full.Kind, name)
		}
		asked(t, name, full)
		asked(t, name+" alone", alone)
	}
	for _, c := range eleven() {
		for _, n := range []int{1, 2, -1, 1 << 32, math.MaxInt, math.MinInt} {
			for _, f := range wholes() {
				full, alone := c, of(call{Kind: c.Kind})
				f.put(&full, n)
				f.put(&alone, n)
				ask(f.name, full, alone)
			}
		}
		for _, n := range []int{1, 2, 300, 1500} {
			for _, f := range texts() {
				full, alone := c, of(call{Kind: c.Kind})
				f.put(&full, n)
				f.put(&alone, n)
				ask(f.name, full, alone)
			}
		}
		full, alone := c, of(call{Kind: c.Kind, Folder: true})
		full.Folder = true
		ask("Folder", full, alone)
	}
	if many != 6*(22+3+1+2+1+3+1+2)+4*(2+1+1+2+1+1)+1 {
		t.Errorf("%d uses", many)
	}
}

// Two fields that a kind does not use, which might be taken for none together.
func TestFieldsThatAreNotUsed(t *testing.T) {
	for _, c := range eleven() {
		for _, f := range wholes() {
			for _, g := range wholes() {
				x := c
				f.put(&x, 1)
				g.put(&x, -1)
				asked(t, f.name+" and "+g.name, x)
			}
		}
	}
}

// A call that is none changes nothing, and is not the last one.
func TestNoCallIsDone(t *testing.T) {
	x, a, b, _, _ := filled(t)
	wrong := []call{
		with(1, 6, call{Kind: kWrite, H: a, B: "no", N: 1}),
		with(1, 6, call{Kind: kCut, H: a, At: 1}),
		with(1, 6, call{Kind: kMake, H: root, G: root, Name: "x"}),
		with(1, 6, call{Kind: kRemove, H: root, Name: "a", Other: "a"}),
		with(1, 6, call{Kind: kLink, H: a, G: b, Name: "x", Folder: true}),
		with(1, 6, call{Kind: 12, H: root}),
		with(0, 6, call{Kind: kRemove, H: root, Name: "a"}),
		with(mostClient+1, 6, call{Kind: kRemove, H: root, Name: "a"}),
		with(1, 0, call{Kind: kRemove, H: root, Name: "a"}),
		with(1, mostNumber+1, call{Kind: kRemove, H: root, Name: "a"}),
		with(1, -6, call{Kind: kRemove, H: root, Name: "a"}),
	}
	for _, c := range wrong {
		x.is(c, api.ErrCallForm)
		x.same()
	}
	if n, a := x.x.Last(1); n != 5 || a.Code != api.OK {
		t.Errorf("P18.2: Last is %d, %s", n, short(a))
	}
	x.ok(with(1, 6, call{Kind: kRemove, H: root, Name: "a"}))
	x.same()
}

// A call that is none is told as that, also where its Number, or its client, would be refused.
func TestNoCallComesFirst(t *testing.T) {
	x, _, _, _, _ := filled(t)
	x.is(with(1, 4, call{Kind: kStat, H: root}), api.ErrArg)
	x.is(with(1, 4, call{Kind: kStat, H: root, N: 1}), api.ErrCallForm)
	x.is(with(1, 4, call{Kind: 12}), api.ErrCallForm)
	x.is(with(1, 5, call{Kind: kStat, H: root, N: 1}), api.ErrCallForm)
	x.is(with(1, 5, call{}), api.ErrCallForm)
	for k := range mostClients {
		x.apply(with(100+k, 1, call{Kind: kStat, H: root}))
	}
	x.is(with(9, 1, call{Kind: kStat, H: root}), api.ErrArg)
	x.is(with(9, 1, call{Kind: kStat, H: root, Name: "x"}), api.ErrCallForm)
	x.is(with(9, 0, call{Kind: kStat, H: root}), api.ErrCallForm)
	x.is(with(mostClient+1, 1, call{Kind: kStat, H: root}), api.ErrCallForm)
	x.same()
}
