package zstate_test

import (
	"encoding/binary"
	"math"
	"slices"
	"strings"
	"testing"
	"unsafe"

	"harpsichord/api"
	"harpsichord/zstate"
)

// bytesOf are a transaction's bytes by the chapter's words, whatever is in it.
func bytesOf(x zstate.Txn) []byte {
	b := []byte{byte(x.Kind)}
	for _, n := range []int{x.Session, x.Number, x.Span, x.Now} {
		b = binary.BigEndian.AppendUint64(b, uint64(n))
	}
	b = append(b, byte(len(x.L)))
	for _, c := range x.L {
		b = append(b, byte(c.Kind))
		b = append(binary.BigEndian.AppendUint16(b, uint16(len(c.Path))), c.Path...)
		b = append(binary.BigEndian.AppendUint16(b, uint16(len(c.Data))), c.Data...)
		b = binary.BigEndian.AppendUint64(b, uint64(c.Version+1))
		b = append(b, bit(c.Ephemeral), bit(c.Sequence))
	}
	return b
}

func bit(is bool) byte {
	if is {
		return 1
	}
	return 0
}

// same tells whether two transactions are the same.
func same(a, b zstate.Txn) bool {
	return a.Kind == b.Kind && a.Session == b.Session && a.Number == b.Number && a.Span == b.Span && a.Now == b.Now && slices.Equal(a.L, b.L)
}

// copied is a transaction whose changes are its own.
func copied(x zstate.Txn) zstate.Txn {
	x.L = slices.Clone(x.L)
	return x
}

// encoded asks for the bytes of a transaction, and that they are read as it again.
func encoded(t *testing.T, x zstate.Txn) []byte {
	t.Helper()
	b, e := zstate.Encode(x)
	if e != api.OK || !slices.Equal(b, bytesOf(x)) {
		t.Fatalf("P11.3: Encode(%s) is %s, %d, not %s", short(x), short(b), e, short(bytesOf(x)))
	}
	y, e := zstate.Decode(b)
	if e != api.OK || !same(x, y) {
		t.Fatalf("P11.5: Decode of Encode(%s) is %s, %d", short(x), short(y), e)
	}
	return b
}

// notEncoded asks that a transaction is refused.
func notEncoded(t *testing.T, x zstate.Txn) {
	t.Helper()
	if b, e := zstate.Encode(x); len(b) != 0 || e != api.ErrStateForm {
		t.Fatalf("P11.3: Encode(%s) is %s, %d", short(x), short(b), e)
	}
}

// notDecoded asks that bytes are no transaction.
func notDecoded(t *testing.T, what string, b []byte) {
	t.Helper()
	if x, e := zstate.Decode(b); !same(x, zstate.Txn{}) || e != api.ErrStateForm {
		t.Fatalf("P11.3: %s: Decode(%s) is %s, %d", what, short(b), short(x), e)
	}
}

// full is a transaction in which each field has a value of its own.
func full() zstate.Txn {
	return zstate.Txn{Kind: 4, Session: 1<<40 + 2, Number: 3, Span: 1 << 50, Now: 0x0102030405060708, L: []api.Change{
		{Kind: api.Create, Path: "/a", Data: "x\x00\xff", Version: 258, Ephemeral: true},
		{Kind: api.SetTo, Path: "/a/bc", Data: "data", Version: -1, Sequence: true},
		{Kind: 255, Data: "", Version: 0, Ephemeral: true, Sequence: true},
	}}
}

// with are copies of full of which each has n in another one of the fields that a Whole is of.
func with(n int) []zstate.Txn {
	var l []zstate.Txn
	for k := range 4 {
		x := full()
		*[]*int{&x.Session, &x.Number, &x.Span, &x.Now}[k] = n
		l = append(l, x)
	}
	return l
}

// changed is full, of which this is done to each of its changes in turn.
func changed(do func(c *api.Change)) []zstate.Txn {
	var l []zstate.Txn
	for k := range full().L {
		x := full()
		do(&x.L[k])
		l = append(l, x)
	}
	return l
}

func long(n int) string {
	return strings.Repeat("x", n)
}

func TestEncode(t *testing.T) {
	b := encoded(t, zstate.Txn{Kind: 1, Session: 2, Number: 3, Span: 4, Now: 5, L: []api.Change{{Kind: 6, Path: "p", Data: "da", Version: 6, Ephemeral: true}}})
	want := []byte{1, 0, 0, 0, 0, 0, 0, 0, 2, 0, 0, 0, 0, 0, 0, 0, 3, 0, 0, 0, 0, 0, 0, 0, 4, 0, 0, 0, 0, 0, 0, 0, 5, 1, 6, 0, 1, 'p', 0, 2, 'd', 'a', 0, 0, 0, 0, 0, 0, 0, 7, 1, 0}
	if !slices.Equal(b, want) {
		t.Errorf("P11.3: Encode is %v, not %v", b, want)
	}
	encoded(t, full())
	encoded(t, zstate.Txn{})
	encoded(t, zstate.Txn{L: []api.Change{{}}})
	encoded(t, zstate.Txn{L: []api.Change{}})
	for _, x := range []zstate.Txn{opening(10, 5), renewal(1, 2), closing(1), change(1, 2, create("/a"), ephemeral("/b"), sequence("/c"), remove("/d"), set("/e", "f"), check("/g")), ending(1, 5)} {
		encoded(t, x)
	}
}

func TestBoundsOfEncode(t *testing.T) {
	for _, kind := range []int{0, 1, 5, 6, 127, 128, 254, 255} {
		encoded(t, zstate.Txn{Kind: kind})
		for _, x := range changed(func(c *api.Change) { c.Kind = kind }) {
			encoded(t, x)
		}
	}
	for _, kind := range []int{-1, -255, math.MinInt, 256, 257, 1<<32 + 1, math.MaxInt} {
		notEncoded(t, zstate.Txn{Kind: kind})
		for _, x := range changed(func(c *api.Change) { c.Kind = kind }) {
			notEncoded(t, x)
		}
	}
	for _, n := range []int{0, 1, 255, 256, math.MaxInt32 + 1, top - 1, top} {
		for _, x := range with(n) {
			encoded(t, x)
		}
	}
	for _, n := range []int{-1, -2, math.MinInt, top + 1, top + 2, math.MaxInt} {
		for _, x := range with(n) {
			notEncoded(t, x)
		}
	}
	for _, version := range []int{-1, 0, 1, 255, top - 2, top - 1} {
		for _, x := range changed(func(c *api.Change) { c.Version = version }) {
			encoded(t, x)
		}
	}
	for _, version := range []int{-2, -3, math.MinInt, math.MinInt + 1, top, top + 1, math.MaxInt - 1, math.MaxInt} {
		for _, x := range changed(func(c *api.Change) { c.Version = version }) {
			notEncoded(t, x)
		}
	}
}

func TestLongTextsOfEncode(t *testing.T) {
	for _, n := range []int{0, 1, 255, 256, api.MaxText - 1, api.MaxText} {
		for _, x := range append(changed(func(c *api.Change) { c.Path = long(n) }), changed(func(c *api.Change) { c.Data = long(n) })...) {
			encoded(t, x)
		}
	}
	for _, n := range []int{api.MaxText + 1, api.MaxText + 2, 1 << 16, 1<<16 + 1} {
		for _, x := range append(changed(func(c *api.Change) { c.Path = long(n) }), changed(func(c *api.Change) { c.Data = long(n) })...) {
			notEncoded(t, x)
		}
	}
}

func TestHowManyChangesOfEncode(t *testing.T) {
	for n := range 7 {
		encoded(t, zstate.Txn{Kind: 4, L: make([]api.Change, n)})
		encoded(t, change(1, 2, checks(n)...))
	}
	for _, n := range []int{7, 8, 255, 256, 256 + 6, 1 << 16, 1<<16 + 1} {
		notEncoded(t, zstate.Txn{Kind: 4, L: make([]api.Change, n)})
		notEncoded(t, change(1, 2, checks(n)...))
	}
}

// sized is a transaction of several changes that has so many bytes.
func sized(n int) zstate.Txn {
	x := change(1, 2, api.Change{Kind: 1, Path: long(400), Data: long(api.MaxText)}, api.Change{Kind: 1, Data: long(api.MaxText)}, api.Change{Kind: 1, Data: long(api.MaxText)}, check(""))
	x.L[3].Data = long(n - len(bytesOf(x)))
	return x
}

func TestTheLongestRecord(t *testing.T) {
	for _, n := range []int{api.MaxRecord - 1, api.MaxRecord} {
		if b := encoded(t, sized(n)); len(b) != n {
			t.Fatalf("%d bytes, not %d", len(b), n)
		}
	}
	for _, n := range []int{api.MaxRecord + 1, api.MaxRecord + 2, api.MaxRecord + 100} {
		x := sized(n)
		notEncoded(t, x)
		notDecoded(t, "too long", bytesOf(x))
	}
	x := zstate.Txn{L: slices.Repeat([]api.Change{{Path: long(api.MaxText), Data: long(api.MaxText)}}, 6)}
	notEncoded(t, x)
	notDecoded(t, "as long as can be", bytesOf(x))
}

func TestDecodeOfWhatIsCutOffOrGoesOn(t *testing.T) {
	for _, x := range []zstate.Txn{full(), {}, opening(10, 5), change(1, 2, checks(6)...), sized(api.MaxRecord)} {
		b := encoded(t, x)
		for n := range b {
			notDecoded(t, "cut off", b[:n])
		}
		for _, more := range []string{"\x00", "\x01", "xyz", string(b)} {
			notDecoded(t, "with more behind it", append(slices.Clone(b), more...))
		}
	}
	notDecoded(t, "nothing", nil)
	notDecoded(t, "very much", make([]byte, 1<<20))
}

func TestDecodeOfWhatIsNone(t *testing.T) {
	for _, n := range []int{7, 8, 200, 255} {
		notDecoded(t, "too many changes", bytesOf(change(1, 2, checks(n)...)))
		notDecoded(t, "too many changes", bytesOf(zstate.Txn{L: make([]api.Change, n)}))
	}
	for _, n := range []int{-1, math.MinInt, top + 1, math.MaxInt} {
		for _, x := range with(n) {
			notDecoded(t, "a wrong number", bytesOf(x))
		}
	}
	for _, version := range []int{-2, -3, math.MinInt, top, top + 1, math.MaxInt} {
		for _, x := range changed(func(c *api.Change) { c.Version = version }) {
			notDecoded(t, "a wrong version", bytesOf(x))
		}
	}
	for _, n := range []int{api.MaxText + 1, api.MaxText + 2} {
		for _, x := range append(changed(func(c *api.Change) { c.Path = long(n) }), changed(func(c *api.Change) { c.Data = long(n) })...) {
			notDecoded(t, "a long text", bytesOf(x))
		}
	}
	b := encoded(t, full())
	for _, n := range []byte{2, 3, 128, 254, 255} {
		for back := range 2 {
			c := slices.Clone(b)
			c[len(c)-1-back] = n
			notDecoded(t, "a wrong switch", c)
		}
	}
	for count := range 256 {
		c := slices.Clone(b)
		c[33] = byte(count)
		if count != 3 {
			notDecoded(t, "a wrong count", c)
		}
	}
}

// What Decode reads is what Encode writes: no bytes say what other ones say.
func TestDecodeOfTurnedBytes(t *testing.T) {
	for _, x := range []zstate.Txn{full(), {}, change(1, 2, create("/a"), ephemeral("/b"))} {
		b := encoded(t, x)
		read := 0
		for at := range b {
			for n := range 256 {
				c := slices.Clone(b)
				c[at] = byte(n)
				y, e := zstate.Decode(c)
				if e == api.ErrStateForm && same(y, zstate.Txn{}) {
					continue
				}
				again, f := zstate.Encode(y)
				if e != api.OK || f != api.OK || !slices.Equal(again, c) {
					t.Fatalf("P11.3: Decode(%s) is %s, %d, of which Encode is %s, %d", short(c), short(y), e, short(again), f)
				}
				read++
			}
		}
		if read < 256 {
			t.Errorf("%d were read", read)
		}
	}
}

func TestDecodeOfEncode(t *testing.T) {
	long := 0
	for seed := range uint64(20) {
		roll := dice(seed)
		for range 300 {
			x := anyTxn(roll)
			b, e := zstate.Encode(x)
			if all := bytesOf(x); len(all) > api.MaxRecord {
				notEncoded(t, x)
				notDecoded(t, "too long", all)
				long++
			} else if e == api.OK {
				encoded(t, x)
			} else if len(b) != 0 || e != api.ErrStateForm {
				t.Fatalf("P11.3: Encode(%s) is %s, %d", short(x), short(b), e)
			}
		}
	}
	if long < 200 {
		t.Errorf("%d were too long", long)
	}
}

// anyTxn is any transaction whose fields are as they may be, most often.
func anyTxn(roll func(int) int) zstate.Txn {
	whole := func() int { return pick(roll, 0, 1, 7, roll(1<<30), roll(1<<30)<<32, top-1, top) }
	x := zstate.Txn{Kind: roll(256), Session: whole(), Number: whole(), Span: whole(), Now: whole()}
	for range roll(7) {
		x.L = append(x.L, api.Change{Kind: roll(256), Path: long(pick(roll, 0, 1, 9, 600, 1000, roll(1025))), Data: long(pick(roll, 0, 1, 9, 600, 1000, roll(1025))), Version: whole() - 1, Ephemeral: roll(2) == 0, Sequence: roll(2) == 0})
	}
	if roll(50) == 0 {
		x.Number = top + 1
	}
	return x
}

func TestWhatIsGivenToTheCodecStays(t *testing.T) {
	x := full()
	l := append(make([]api.Change, 0, 5), x.L...)
	x.L = l
	b, _ := zstate.Encode(x)
	if !slices.Equal(l, full().L) || l[:5][4] != (api.Change{}) {
		t.Errorf("R5: what Encode was given is %s", short(l[:5]))
	}
	was := slices.Clone(b)
	clear(l)
	if !slices.Equal(b, was) {
		t.Error("R6: what Encode told is turned by what it was given")
	}
	given := append(make([]byte, 0, len(b)+8), b...)
	y, e := zstate.Decode(given)
	if e != api.OK || !slices.Equal(given[:len(b)], was) || !slices.Equal(given[len(b):len(b)+8], make([]byte, 8)) {
		t.Errorf("R5: what Decode was given is %s", short(given[:len(b)+8]))
	}
	clear(given)
	if !same(y, full()) {
		t.Errorf("R6: what Decode told became %s", short(y))
	}
	y.L[0].Path = "/zz"
	z, _ := zstate.Decode(b)
	if !same(z, full()) {
		t.Errorf("R6: another of Decode is %s", short(z))
	}
}

// changing is a text, and the bytes of which it is made: who clears them turns it into another one.
func changing(s string) (string, []byte) {
	b := []byte(s)
	return unsafe.String(unsafe.SliceData(b), len(b)), b
}

// What a state keeps is its own, whatever becomes of the bytes of which the given texts were made.
func TestWhatIsKeptIsTheStatesOwn(t *testing.T) {
	path, a := changing("/ab")
	data, b := changing("xyz")
	s := open(t, 1)
	r, events := s.Apply(2, change(1, 1, api.Change{Kind: api.Create, Path: path, Data: data}, check(path)))
	if string(a) != "/ab" || string(b) != "xyz" {
		t.Fatalf("R5: what was given is %q, %q", a, b)
	}
	clear(a)
	clear(b)
	if z, is := s.Tree().Get("/ab"); !is || z.Data != "xyz" || !alike(r, paths("/ab", "/ab")) || !slices.Equal(events, made("/ab")) {
		t.Errorf("R6: what is kept is %s, %v, and what was told %s, %s", short(z), is, short(r), short(events))
	}
	last(t, s, 1, 1, paths("/ab", "/ab"))

	was := picture(s)
	var packed []string
	var all [][]byte
	for _, r := range s.Pack() {
		given, bytes := changing(r)
		packed, all = append(packed, given), append(all, bytes)
	}
	u, e := zstate.Load(packed)
	if e != api.OK || !slices.Equal(packed, s.Pack()) {
		t.Fatalf("R5: Load is %d, and what was given %s", e, short(packed))
	}
	for _, bytes := range all {
		clear(bytes)
	}
	clear(packed)
	stays(t, u, "what was loaded", was)
}
