package pack_test

import (
	"bytes"
	"fmt"
	"math"
	"slices"
	"strings"
	"testing"

	"harpsichord/api"
	"harpsichord/pack"
)

// show is a thing as a line that can be read, however long its texts are.
func show(thing any) string {
	s := fmt.Sprintf("%+q", fmt.Sprintf("%v", thing))
	return s[:min(len(s), 300)]
}

func small(n int) api.Field   { return api.Field{Kind: api.Small, N: n} }
func whole(n int) api.Field   { return api.Field{Kind: api.Whole, N: n} }
func text(s string) api.Field { return api.Field{Kind: api.Text, S: s} }
func toggle(n int) api.Field  { return api.Field{Kind: api.Switch, N: n} }

// long is a text of n bytes, of all values.
func long(n int) string {
	b := make([]byte, n)
	for k := range b {
		b[k] = byte(k * 7)
	}
	return string(b)
}

type laid struct {
	f     api.Field
	bytes string
}

// sound are fields with which nothing is amiss, and their bytes.
func sound() []laid {
	return []laid{
		{small(0), "\x00"},
		{small(1), "\x01"},
		{small(7), "\x07"},
		{small(128), "\x80"},
		{small(255), "\xff"},
		{whole(0), "\x00\x00\x00\x00\x00\x00\x00\x00"},
		{whole(1), "\x00\x00\x00\x00\x00\x00\x00\x01"},
		{whole(255), "\x00\x00\x00\x00\x00\x00\x00\xff"},
		{whole(256), "\x00\x00\x00\x00\x00\x00\x01\x00"},
		{whole(0x0102030405060708), "\x01\x02\x03\x04\x05\x06\x07\x08"},
		{whole(1<<62 - 1), "\x3f\xff\xff\xff\xff\xff\xff\xff"},
		{whole(1 << 62), "\x40\x00\x00\x00\x00\x00\x00\x00"},
		{text(""), "\x00\x00"},
		{text("a"), "\x00\x01a"},
		{text("ab"), "\x00\x02ab"},
		{text("\x00"), "\x00\x01\x00"},
		{text("\xff\xfe\x80"), "\x00\x03\xff\xfe\x80"},
		{text(long(255)), "\x00\xff" + long(255)},
		{text(long(256)), "\x01\x00" + long(256)},
		{text(long(api.MaxText - 1)), "\x03\xff" + long(api.MaxText-1)},
		{text(long(api.MaxText)), "\x04\x00" + long(api.MaxText)},
		{toggle(0), "\x00"},
		{toggle(1), "\x01"},
	}
}

// strange are kinds that there are not.
func strange() []int {
	return []int{0, 5, 6, -1, -4, 255, 256, 257, math.MaxInt, math.MinInt}
}

// holdEncode asks that no bytes stand beside an error.
func holdEncode(t *testing.T, l []api.Field, want string, e api.Errno) {
	t.Helper()
	b, got := pack.Encode(l)
	if string(b) != want || got != e || got != api.OK && b != nil {
		t.Errorf("P2.1: Encode(%s) is %s, %d, not %s, %d", show(l), show(b), got, show([]byte(want)), e)
	}
}

// holdSome asks that no fields and no number stand beside an error.
func holdSome(t *testing.T, kinds []int, b string, want []api.Field, size int, e api.Errno) {
	t.Helper()
	l, n, got := pack.Some(kinds, []byte(b))
	if !slices.Equal(l, want) || n != size || got != e || got != api.OK && l != nil {
		t.Errorf("P2.2: Some(%s, %s) is %s, %d, %d, not %s, %d, %d", show(kinds), show([]byte(b)), show(l), n, got, show(want), size, e)
	}
}

func holdDecode(t *testing.T, kinds []int, b string, want []api.Field, e api.Errno) {
	t.Helper()
	l, got := pack.Decode(kinds, []byte(b))
	if !slices.Equal(l, want) || got != e || got != api.OK && l != nil {
		t.Errorf("P2.2: Decode(%s, %s) is %s, %d, not %s, %d", show(kinds), show([]byte(b)), show(l), got, show(want), e)
	}
}

// holdRefused asks for the same error of Some and of Decode.
func holdRefused(t *testing.T, kinds []int, b string, e api.Errno) {
	t.Helper()
	holdSome(t, kinds, b, nil, 0, e)
	holdDecode(t, kinds, b, nil, e)
}

func TestExamples(t *testing.T) {
	holdEncode(t, []api.Field{small(7), text("ab")}, "\x07\x00\x02ab", api.OK)
	holdDecode(t, []int{api.Switch}, "\x02", nil, api.ErrPackForm)
	holdDecode(t, []int{api.Text}, "\x00\x02a", nil, api.ErrPackEnd)
}

func TestEncodeOfOneField(t *testing.T) {
	for _, c := range sound() {
		holdEncode(t, []api.Field{c.f}, c.bytes, api.OK)
	}
}

func TestEncodeOfFieldsBehindEachOther(t *testing.T) {
	for _, x := range sound() {
		for _, y := range sound() {
			holdEncode(t, []api.Field{x.f, y.f}, x.bytes+y.bytes, api.OK)
		}
	}
	var all []api.Field
	want := ""
	for _, c := range sound() {
		all = append(all, c.f)
		want += c.bytes
	}
	holdEncode(t, all, want, api.OK)
}

func TestEncodeOfNoFields(t *testing.T) {
	holdEncode(t, nil, "", api.OK)
	holdEncode(t, []api.Field{}, "", api.OK)
}

type refused struct {
	f api.Field
	e api.Errno
}

// wrong are fields with which something is amiss.
func wrong() []refused {
	l := []refused{
		{small(-1), api.ErrPackForm},
		{small(256), api.ErrPackForm},
		{small(math.MaxInt), api.ErrPackForm},
		{small(math.MinInt), api.ErrPackForm},
		{whole(-1), api.ErrPackForm},
		{whole(1<<62 + 1), api.ErrPackForm},
		{whole(math.MaxInt), api.ErrPackForm},
		{whole(math.MinInt), api.ErrPackForm},
		{toggle(-1), api.ErrPackForm},
		{toggle(2), api.ErrPackForm},
		{toggle(255), api.ErrPackForm},
		{toggle(256), api.ErrPackForm},
		{text(long(api.MaxText + 1)), api.ErrPackLong},
		{text(long(1<<16 - 1)), api.ErrPackLong},
		{text(long(1 << 16)), api.ErrPackLong},
		{text(long(1<<16 + 1)), api.ErrPackLong},
		{api.Field{Kind: api.Small, S: "x"}, api.ErrPackForm},
		{api.Field{Kind: api.Small, N: 7, S: "\x00"}, api.ErrPackForm},
		{api.Field{Kind: api.Whole, S: "x"}, api.ErrPackForm},
		{api.Field{Kind: api.Switch, N: 1, S: "x"}, api.ErrPackForm},
		{api.Field{Kind: api.Text, N: 1}, api.ErrPackForm},
		{api.Field{Kind: api.Text, N: -1, S: "a"}, api.ErrPackForm},
		{api.Field{Kind: api.Text, N: 2, S: "ab"}, api.ErrPackForm},
		{api.Field{Kind: api.Text, N: 1, S: long(api.MaxText + 1)}, api.ErrPackForm},
		{api.Field{Kind: api.Small, S: long(api.MaxText + 1)}, api.ErrPackForm},
		{api.Field{Kind: api.Small, N: 256, S: long(api.MaxText + 1)}, api.ErrPackForm},
		{api.Field{Kind: 5, S: long(api.MaxText + 1)}, api.ErrPackForm},
	}
	for _, kind := range strange() {
		for _, f := range []api.Field{{}, {N: 1}, {N: -1}, {S: "a"}} {
			f.Kind = kind
			l = append(l, refused{f, api.ErrPackForm})
		}
	}
	return l
}

func TestEncodeRefuses(t *testing.T) {
	for _, c := range wrong() {
		holdEncode(t, []api.Field{c.f}, "", c.e)
		holdEncode(t, []api.Field{small(1), c.f}, "", c.e)
		holdEncode(t, []api.Field{c.f, text("ab")}, "", c.e)
	}
}

func TestEncodeTellsOfTheFirstField(t *testing.T) {
	for _, x := range wrong() {
		for _, y := range wrong() {
			holdEncode(t, []api.Field{toggle(1), x.f, small(3), y.f}, "", x.e)
		}
	}
}

func TestReadOfOneField(t *testing.T) {
	for _, c := range sound() {
		kinds, want := []int{c.f.Kind}, []api.Field{c.f}
		holdDecode(t, kinds, c.bytes, want, api.OK)
		for _, rest := range []string{"", "\x00", "\xff", "rest", "\x00\x02a"} {
			holdSome(t, kinds, c.bytes+rest, want, len(c.bytes), api.OK)
		}
	}
}

func TestReadOfFieldsBehindEachOther(t *testing.T) {
	for _, x := range sound() {
		for _, y := range sound() {
			kinds, want, b := []int{x.f.Kind, y.f.Kind}, []api.Field{x.f, y.f}, x.bytes+y.bytes
			holdDecode(t, kinds, b, want, api.OK)
			holdSome(t, kinds, b+"\xff", want, len(b), api.OK)
		}
	}
}

func TestReadOfNoFields(t *testing.T) {
	for _, kinds := range [][]int{nil, {}} {
		holdDecode(t, kinds, "", nil, api.OK)
		holdDecode(t, kinds, "\x00", nil, api.ErrPackForm)
		holdSome(t, kinds, "", nil, 0, api.OK)
		holdSome(t, kinds, "ab", nil, 0, api.OK)
	}
}

func TestReadOfNoBytes(t *testing.T) {
	for _, kind := range []int{api.Small, api.Whole, api.Text, api.Switch} {
		holdRefused(t, []int{kind}, "", api.ErrPackEnd)
	}
	if l, e := pack.Decode([]int{api.Small}, nil); l != nil || e != api.ErrPackEnd {
		t.Errorf("P2.2: Decode(Small; nil) is %s, %d", show(l), e)
	}
	if l, n, e := pack.Some(nil, nil); len(l) != 0 || n != 0 || e != api.OK {
		t.Errorf("P2.2: Some(nil, nil) is %s, %d, %d", show(l), n, e)
	}
}

func TestBytesThatEndWithinAField(t *testing.T) {
	var kinds []int
	b := ""
	for _, c := range sound() {
		for cut := range c.bytes {
			holdRefused(t, []int{c.f.Kind}, c.bytes[:cut], api.ErrPackEnd)
		}
		kinds = append(kinds, c.f.Kind)
		b += c.bytes
	}
	for cut := range b {
		if l, n, e := pack.Some(kinds, []byte(b[:cut])); l != nil || n != 0 || e != api.ErrPackEnd {
			t.Fatalf("P2.2: Some of the first %d bytes is %s, %d, %d", cut, show(l), n, e)
		}
		if l, e := pack.Decode(kinds, []byte(b[:cut])); l != nil || e != api.ErrPackEnd {
			t.Fatalf("P2.2: Decode of the first %d bytes is %s, %d", cut, show(l), e)
		}
	}
}

func TestBytesThatAreLeft(t *testing.T) {
	for _, c := range sound() {
		for _, rest := range []string{"\x00", "\x01", "\xff", "ab", c.bytes} {
			holdDecode(t, []int{c.f.Kind}, c.bytes+rest, nil, api.ErrPackForm)
		}
	}
}

func TestReadRefusesKinds(t *testing.T) {
	for _, kind := range strange() {
		for _, b := range []string{"", "\x00", "\x01ab", "\x00\x00\x00\x00\x00\x00\x00\x00"} {
			holdRefused(t, []int{kind}, b, api.ErrPackForm)
		}
		holdRefused(t, []int{api.Small, kind}, "\x00", api.ErrPackForm)
		holdRefused(t, []int{kind, api.Small}, "", api.ErrPackForm)
	}
}

func TestReadRefusesWholes(t *testing.T) {
	for _, b := range []string{
		"\x40\x00\x00\x00\x00\x00\x00\x01",
		"\x41\x00\x00\x00\x00\x00\x00\x00",
		"\x7f\xff\xff\xff\xff\xff\xff\xff",
		"\x80\x00\x00\x00\x00\x00\x00\x00",
		"\x80\x00\x00\x00\x00\x00\x00\x01",
		"\xc0\x00\x00\x00\x00\x00\x00\x00",
		"\xff\xff\xff\xff\xff\xff\xff\xff",
	} {
		holdRefused(t, []int{api.Whole}, b, api.ErrPackForm)
		holdRefused(t, []int{api.Whole}, b+"more", api.ErrPackForm)
		for cut := range b {
			holdRefused(t, []int{api.Whole}, b[:cut], api.ErrPackEnd)
		}
	}
}

func TestReadOfEachByte(t *testing.T) {
	for x := range 256 {
		b := string([]byte{byte(x)})
		holdDecode(t, []int{api.Small}, b, []api.Field{small(x)}, api.OK)
		if x > 1 {
			holdRefused(t, []int{api.Switch}, b, api.ErrPackForm)
			holdRefused(t, []int{api.Switch}, b+"\x00", api.ErrPackForm)
		}
	}
}

func TestReadRefusesTexts(t *testing.T) {
	full := "\x04\x01" + long(api.MaxText+1)
	for _, b := range []string{full, full + "more", full[:len(full)-1], full[:3], "\x04\x01", "\x05\x00", "\xff\xff", "\xff\xffab", "\x80\x00"} {
		holdRefused(t, []int{api.Text}, b, api.ErrPackLong)
	}
	for _, b := range []string{"\x04", "\x05", "\xff"} {
		holdRefused(t, []int{api.Text}, b, api.ErrPackEnd)
	}
	for _, b := range []string{"\x04\x00", "\x04\x00" + long(api.MaxText-1), "\x00\x01", "\x01\x00ab"} {
		holdRefused(t, []int{api.Text}, b, api.ErrPackEnd)
	}
}

func TestReadTellsOfTheFirstField(t *testing.T) {
	for _, c := range []struct {
		kinds []int
		b     string
		e     api.Errno
	}{
		{[]int{api.Switch, api.Text}, "\x02\x04\x01", api.ErrPackForm},
		{[]int{api.Text, api.Switch}, "\x04\x01\x02", api.ErrPackLong},
		{[]int{api.Text, 0}, "\x00\x02a", api.ErrPackEnd},
		{[]int{api.Text, 0}, "\x00\x01a", api.ErrPackForm},
		{[]int{api.Switch, api.Whole}, "\x02", api.ErrPackForm},
		{[]int{api.Whole, api.Switch}, "\x02", api.ErrPackEnd},
		{[]int{api.Small, api.Text}, "\x02\xff\xff", api.ErrPackLong},
		{[]int{api.Small, api.Whole}, "\x02\xff\xff", api.ErrPackEnd},
		{[]int{0, api.Text}, "\x04\x01", api.ErrPackForm},
		{[]int{api.Small, api.Small}, "\x02", api.ErrPackEnd},
	} {
		holdRefused(t, c.kinds, c.b, c.e)
	}
}

func TestManyKindsAndFewBytes(t *testing.T) {
	kinds := slices.Repeat([]int{api.Text}, 1<<20)
	holdSome(t, kinds, "\x00\x00", nil, 0, api.ErrPackEnd)
	b := strings.Repeat("\x00\x00", 1<<20)
	if l, e := pack.Decode(kinds, []byte(b)); len(l) != 1<<20 || e != api.OK {
		t.Errorf("P2.2: Decode of %d kinds is %d fields, %d", len(kinds), len(l), e)
	}
}

func TestKinds(t *testing.T) {
	var l []api.Field
	var want []int
	for _, c := range sound() {
		l, want = append(l, c.f), append(want, c.f.Kind)
	}
	for _, c := range wrong() {
		l, want = append(l, c.f), append(want, c.f.Kind)
	}
	if got := pack.Kinds(l); !slices.Equal(got, want) {
		t.Errorf("P2.3: Kinds are %v, not %v", got, want)
	}
	if got := pack.Kinds(nil); len(got) != 0 {
		t.Errorf("P2.3: Kinds(nil) are %v", got)
	}
	if got := pack.Kinds([]api.Field{}); len(got) != 0 {
		t.Errorf("P2.3: Kinds of no fields are %v", got)
	}
}

func TestWhatWasEncodedIsDecoded(t *testing.T) {
	var all []api.Field
	for _, x := range sound() {
		all = append(all, x.f)
		for _, y := range sound() {
			for _, z := range sound() {
				holdThereAndBack(t, []api.Field{x.f, y.f, z.f})
			}
		}
	}
	holdThereAndBack(t, nil)
	holdThereAndBack(t, all)
}

func holdThereAndBack(t *testing.T, l []api.Field) {
	t.Helper()
	b, e := pack.Encode(l)
	if e != api.OK {
		t.Fatalf("P2.4: Encode(%s) is %d", show(l), e)
	}
	m, e := pack.Decode(pack.Kinds(l), b)
	if e != api.OK || !slices.Equal(m, l) {
		t.Fatalf("P2.4: Decode(Kinds(l), Encode(l)) is %s, %d, not %s", show(m), e, show(l))
	}
}

// texts are all texts of at most n bytes of these, the shorter ones first.
func texts(n int, from string) []string {
	all := []string{""}
	begun := 0
	for range n {
		end := len(all)
		for _, s := range all[begun:end] {
			for k := range len(from) {
				all = append(all, s+from[k:k+1])
			}
		}
		begun = end
	}
	return all
}

// lists are all lists of at most three kinds, those that there are not among them.
func lists() [][]int {
	var all [][]int
	for _, s := range texts(3, "\x00\x01\x02\x03\x04\x05") {
		var l []int
		for k := range len(s) {
			l = append(l, int(s[k]))
		}
		all = append(all, l)
	}
	return all
}

// Whatever the bytes are: fields that were told are those that Encode lays as these bytes, and Some tells them with any bytes behind.
func TestWhatWasDecodedIsEncoded(t *testing.T) {
	bytesOf := texts(5, "\x00\x01\x02\x04\xff")
	for _, x := range []string{"\x40\x00\x00\x00\x00\x00\x00", "\x00\x00\x00\x00\x00\x00\x00", "\xff\xff\xff\xff\xff\xff\xff"} {
		for _, y := range texts(3, "\x00\x01\x02") {
			bytesOf = append(bytesOf, x+y, y+x+"\x00")
		}
	}
	told := 0
	for _, kinds := range lists() {
		for _, b := range bytesOf {
			l, n, e := pack.Some(kinds, []byte(b))
			if e == api.OK {
				told++
				holdTold(t, kinds, b, l, n)
			}
			want := e
			if e == api.OK && n < len(b) {
				l, want = nil, api.ErrPackForm
			}
			holdDecode(t, kinds, b, l, want)
		}
	}
	if told == 0 {
		t.Error("P2.4: no fields were told of any bytes")
	}
}

func holdTold(t *testing.T, kinds []int, b string, l []api.Field, n int) {
	t.Helper()
	if !slices.Equal(pack.Kinds(l), kinds) {
		t.Fatalf("P2.2: Some(%s, %x) has fields of other kinds: %s", show(kinds), b, show(l))
	}
	if n > len(b) {
		t.Fatalf("P2.2: Some(%s, %x) has %d bytes", show(kinds), b, n)
	}
	holdEncode(t, l, b[:n], api.OK)
	holdSome(t, kinds, b[:n], l, n, api.OK)
	if n > 0 {
		holdRefused(t, kinds, b[:n-1], api.ErrPackEnd)
	}
}

func TestWhatIsGivenStaysAsItWas(t *testing.T) {
	for _, c := range sound() {
		l := []api.Field{c.f, c.f}
		kinds := []int{c.f.Kind, c.f.Kind}
		b := make([]byte, 0, 4096)
		b = append(b, c.bytes+c.bytes+"x"...)
		pack.Encode(l)
		pack.Kinds(l)
		pack.Some(kinds, b)
		pack.Decode(kinds, b)
		if l[0] != c.f || l[1] != c.f || !slices.Equal(kinds, []int{c.f.Kind, c.f.Kind}) || string(b) != c.bytes+c.bytes+"x" {
			t.Errorf("R5: what was handed in is other now: %s, %v, %s", show(l), kinds, show(b))
		}
		if behind := b[len(b):cap(b)]; !bytes.Equal(behind, make([]byte, len(behind))) {
			t.Error("R5: something was written behind the bytes that were handed in")
		}
	}
}

func TestWhatIsToldIsTheCallers(t *testing.T) {
	l := []api.Field{small(7), text("ab")}
	first, _ := pack.Encode(l)
	second, _ := pack.Encode(l)
	clear(first)
	if string(second) != "\x07\x00\x02ab" || l[1].S != "ab" {
		t.Error("R6: to write into what Encode told changes something else")
	}
	kinds := pack.Kinds(l)
	clear(kinds)
	if l[0].Kind != api.Small || !slices.Equal(pack.Kinds(l), []int{api.Small, api.Text}) {
		t.Error("R6: to write into what Kinds told changes something else")
	}
	told, _ := pack.Decode([]int{api.Small, api.Text}, second)
	again, _ := pack.Decode([]int{api.Small, api.Text}, second)
	clear(second)
	if !slices.Equal(told, l) {
		t.Error("R6: Decode keeps bytes that were handed in")
	}
	clear(told)
	if !slices.Equal(again, l) {
		t.Error("R6: to write into what Decode told changes something else")
	}
}
