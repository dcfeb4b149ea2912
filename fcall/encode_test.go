package fcall_test

import (
	"math"
	"strings"
	"testing"

	"harpsichord/api"
	"harpsichord/fcall"
	"harpsichord/fscore"
)

// encoded asks for the bytes of a call, and that they are read as it again.
func encoded(t *testing.T, c call) string {
	t.Helper()
	s, e := fcall.Encode(c)
	if want, err := encode(c); e != api.OK || s != want || err != api.OK {
		t.Fatalf("P18.1: Encode(%s) is %q, %d, not %q, %d", short(c), s, e, want, err)
	}
	if x, e := fcall.Decode(s); e != api.OK || x != c {
		t.Fatalf("P18.3: Decode of Encode(%s) is %s, %d", short(c), short(x), e)
	}
	return s
}

// unwritten asks that a call is not written, nor its bytes read, if they say all that is in it.
func unwritten(t *testing.T, what string, c call) {
	t.Helper()
	if s, e := fcall.Encode(c); s != "" || e != api.ErrCallForm {
		t.Fatalf("P18.1: %s: Encode(%s) is %q, %d", what, short(c), s, e)
	}
	if s, _ := bytesOf(c); c == bare(c) && len(c.Name) < 1<<16 && len(c.Other) < 1<<16 && len(c.M.Target) < 1<<16 && len(c.B) < 1<<16 {
		unread(t, what, s)
	}
}

// unread asks that a text is no call.
func unread(t *testing.T, what, s string) {
	t.Helper()
	if c, e := fcall.Decode(s); c != (call{}) || e != api.ErrCallForm {
		t.Fatalf("P18.1: %s: Decode(%.300q) is %s, %d", what, s, short(c), e)
	}
}

// wide are so many Wholes as bytes.
func wide(l ...byte) string {
	var b strings.Builder
	for _, n := range l {
		b.WriteString("\x00\x00\x00\x00\x00\x00\x00" + string([]byte{n}))
	}
	return b.String()
}

// The bytes of a call of each kind, written out.
func TestEncode(t *testing.T) {
	front := func(kind byte) string { return wide(12, 13) + string([]byte{kind}) + wide(2, 3) }
	want := []string{
		front(1) + "\x00\x04name" + wide(6, 7, 8) + "\x00\x06target",
		front(2) + wide(4, 5) + "\x00\x04name",
		front(3) + "\x00\x04name\x01",
		front(4) + wide(4, 5) + "\x00\x04name\x00\x05other",
		front(5) + wide(9, 11) + "\x00\x05bytes",
		front(6) + wide(10, 11),
		front(7) + "\x00\x04name",
		front(8) + wide(9, 10),
		front(9),
		front(10),
		front(11),
	}
	for k, c := range eleven() {
		if s := encoded(t, c); s != want[k] {
			t.Errorf("P18.1: Encode(%s) is %q, not %q", short(c), s, want[k])
		}
		s := encoded(t, with(0x010203, 0x0102030405060708, call{Kind: c.Kind}))
		if s[:17] != "\x00\x00\x00\x00\x00\x01\x02\x03\x01\x02\x03\x04\x05\x06\x07\x08"+string([]byte{byte(k + 1)}) || strings.Trim(s[17:], "\x00") != "" {
			t.Errorf("P18.1: Encode of kind %d is %q", c.Kind, s)
		}
	}
}

// Each field that a kind uses is written at its own place: what is read has it, and no other.
func TestFieldsAreApart(t *testing.T) {
	for _, c := range eleven() {
		seen := map[string]string{encoded(t, c): "none"}
		ask := func(name string, x call) {
			s := encoded(t, x)
			if was, is := seen[s]; is {
				t.Errorf("P18.1: of kind %d %s is written as %s", c.Kind, name, was)
			}
			seen[s] = name
		}
		for _, f := range wholes() {
			for _, n := range []int{0, 99, 1 << 32, 1<<62 - 1, 1 << 62} {
				if x := c; uses(c.Kind, f.name) {
					f.put(&x, n)
					ask(f.name, x)
				}
			}
		}
		for _, f := range texts() {
			for _, n := range []int{0, 1, 17} {
				if x := c; uses(c.Kind, f.name) {
					f.put(&x, n)
					ask(f.name, x)
				}
			}
		}
		if x := c; uses(c.Kind, "Folder") {
			x.Folder = false
			ask("Folder", x)
		}
	}
}

func TestFieldsThatAreRefused(t *testing.T) {
	for _, c := range eleven() {
		for _, f := range wholes() {
			for _, n := range []int{-1, -2, -1 << 32, math.MinInt, math.MinInt + 1, 1<<62 + 1, 1<<62 + 2, math.MaxInt} {
				x := c
				f.put(&x, n)
				unwritten(t, f.name, x)
			}
		}
		for _, f := range texts() {
			for _, n := range []int{mostText - 1, mostText, mostText + 1, 1 << 16, 1<<16 + 1, 1 << 20} {
				x := c
				f.put(&x, n)
				unwritten(t, f.name, x)
			}
		}
	}
}

// A call of 200 bytes, and of one more, by each text that each kind uses.
func TestLength(t *testing.T) {
	asked := 0
	for _, c := range eleven() {
		for _, f := range texts() {
			if !uses(c.Kind, f.name) {
				continue
			}
			asked++
			x := c
			f.put(&x, 0)
			empty, _ := bytesOf(x)
			for n := mostBytes - len(empty) - 3; n <= mostBytes-len(empty); n++ {
				f.put(&x, n)
				encoded(t, x)
			}
			for n := mostBytes - len(empty) + 1; n < mostBytes+60; n++ {
				f.put(&x, n)
				unwritten(t, f.name+" is too long", x)
			}
		}
	}
	if asked != 8 {
		t.Errorf("%d texts", asked)
	}
	s := encoded(t, of(writes(root, 1, long(149))))
	if len(s) != 200 {
		t.Errorf("P18.1: %d bytes", len(s))
	}
	unwritten(t, "a byte more", of(writes(root, 1, long(150))))
	both := call{Client: 1, Number: 1, Kind: kRename, H: root, Name: text(73), G: root, Other: text(74)}
	if len(encoded(t, both)) != 200 {
		t.Errorf("P18.1: %s", short(both))
	}
	both.Name += "x"
	unwritten(t, "a byte more", both)
}

// All bytes may stand in a text, also such as are not UTF-8.
func TestBytesOfTexts(t *testing.T) {
	for n := range 256 {
		s := string([]byte{byte(n), 0, byte(n)})
		encoded(t, of(call{Kind: kWrite, B: s}))
		encoded(t, of(call{Kind: kRename, Name: s, Other: s[1:]}))
		encoded(t, of(call{Kind: kMake, Name: s, M: fscore.Make{Target: s}}))
	}
}

func TestDecodeOfPieces(t *testing.T) {
	for _, c := range eleven() {
		s := encoded(t, c)
		for k := range s {
			unread(t, "a shorter beginning", s[:k])
		}
		for k := 1; k < len(s); k++ {
			unread(t, "an end", s[k:])
		}
		for _, more := range []string{"\x00", "x", "\x00\x00", wide(0), s, long(200), long(1 << 16)} {
			unread(t, "something behind it", s+more)
			unread(t, "something ahead of it", more+s)
		}
	}
	unread(t, "nothing", "")
}

// What was written of one kind, with the kind of another one: a call only if that one's fields have all of it.
func TestDecodeOfOtherKinds(t *testing.T) {
	like := []int{0, 1, 2, 3, 4, 2, 6, 7, 6, 9, 9, 9} // the first kind whose fields are of the same kinds
	for _, c := range eleven() {
		s := encoded(t, c)
		for kind := range 256 {
			other := s[:16] + string([]byte{byte(kind)}) + s[17:]
			x, e := fcall.Decode(other)
			if e == api.OK && x.Kind == kind {
				if want, err := encode(x); err != api.OK || want != other {
					t.Errorf("P18.1: Decode(%q) is %s", other, short(x))
				}
			} else {
				unread(t, "another kind", other)
			}
			if alike := kind >= 1 && kind <= 11 && like[kind] == like[c.Kind]; alike != (e == api.OK) {
				t.Errorf("P18.1: kind %d with the fields of kind %d: %d", kind, c.Kind, e)
			}
		}
	}
}

// Fields of other kinds, as long as those that are asked for, and such as are refused.
func TestDecodeOfOtherFields(t *testing.T) {
	front := func(kind byte) string { return wide(12, 13) + string([]byte{kind}) + wide(2, 3) }
	big := "\x40\x00\x00\x00\x00\x00\x00\x01"
	bad := []string{
		front(3) + "\x00\x04name\x02",
		front(3) + "\x00\x04name\xff",
		front(3) + "\x00\x05name\x01",
		front(3) + "\x00\x04name",
		front(7) + "\x00\x03name",
		front(7) + "\x00\x05name",
		front(7) + "\x04\x00name",
		front(7) + "\x04\x01" + long(100),
		front(7) + "\x00",
		front(7) + "\xff\xff",
		front(6) + wide(10) + big,
		front(6) + big + wide(11),
		front(6) + wide(10) + "\x80\x00\x00\x00\x00\x00\x00\x00",
		front(6) + wide(10) + "\xff\xff\xff\xff\xff\xff\xff\xff",
		front(9)[:17] + big + wide(3),
		front(9)[:17] + wide(2) + big,
		wide(0, 13, 2, 3),
		wide(0, 13) + "\x09" + wide(2, 3),
		wide(12, 0) + "\x09" + wide(2, 3),
		wide(12) + big + "\x09" + wide(2, 3),
		big + wide(12) + "\x09" + wide(2, 3),
		"\x00\x00\x00\x00\x00\x0f\x42\x41" + wide(13) + "\x09" + wide(2, 3),
		wide(12, 13) + "\x00" + wide(2, 3),
		wide(12, 13) + "\x0c" + wide(2, 3),
		wide(12, 13) + "\xff" + wide(2, 3),
		wide(12, 13) + "\x00",
		wide(12, 13),
		"a text that is no call",
		"x",
		long(16), long(17), long(33), long(200), long(5000),
		strings.Repeat("\x00", 33), strings.Repeat("\x01", 33), strings.Repeat("\xff", 33),
	}
	for _, s := range bad {
		unread(t, "no call", s)
	}
	good := map[string]call{
		front(3) + "\x00\x04name\x00": {Kind: kRemove, Name: "name"},
		front(7) + "\x00\x00":         {Kind: kLook},
		front(9):                      {Kind: kStat},
		front(6) + wide(10) + "\x40\x00\x00\x00\x00\x00\x00\x00": {Kind: kCut, N: 10, Time: 1 << 62},
	}
	for s, c := range good {
		c.Client, c.Number, c.H = 12, 13, handle{Id: 2, Gen: 3}
		if x, e := fcall.Decode(s); e != api.OK || x != c {
			t.Errorf("P18.1: Decode(%q) is %s, %d", s, short(x), e)
		}
	}
	most := "\x00\x00\x00\x00\x00\x0f\x42\x40\x40\x00\x00\x00\x00\x00\x00\x00\x0b" + wide(2, 3)
	if x, e := fcall.Decode(most); e != api.OK || x != (call{Client: 1000000, Number: 1 << 62, Kind: kTarget, H: handle{Id: 2, Gen: 3}}) {
		t.Errorf("P18.1: Decode(%q) is %s, %d", most, short(x), e)
	}
}

// Any text is a call that is written so, or none.
func TestDecodeOfManyTexts(t *testing.T) {
	roll := dice(18)
	calls := 0
	for range 20000 {
		c := pick(roll, eleven())
		s := []byte(encoded(t, c))
		for range 1 + roll(3) {
			s[roll(len(s))] = byte(pick(roll, []int{0, 1, 2, 3, 5, 11, 12, 0x40, 0x80, 0xff, roll(256)}))
		}
		switch roll(6) {
		case 0:
			s = s[:roll(len(s))]
		case 1:
			s = append(s, long(roll(200))...)
		}
		x, e := fcall.Decode(string(s))
		if e != api.OK {
			unread(t, "a turned text", string(s))
			continue
		}
		calls++
		if want, err := encode(x); err != api.OK || want != string(s) {
			t.Fatalf("P18.1: Decode(%q) is %s, which is written %q, %d", s, short(x), want, err)
		}
	}
	if calls < 4000 || calls > 16000 {
		t.Errorf("%d of the texts were calls", calls)
	}
}

// What can be read is read: what the words write of calls by chance.
func TestDecodeOfManyCalls(t *testing.T) {
	roll := dice(81)
	written := 0
	for range 20000 {
		c := pick(roll, eleven())
		for range roll(5) {
			pick(roll, wholes()).put(&c, pick(roll, []int{0, 0, 1, -1, 7, 1 << 40, 1 << 62, 1<<62 + 1}))
		}
		for range roll(3) {
			pick(roll, texts()).put(&c, pick(roll, []int{0, 0, 1, 60, 61, 100, 150, 200}))
		}
		if roll(3) > 0 {
			c = bare(c)
		}
		if _, e := encode(c); e == api.OK {
			written++
			encoded(t, c)
		} else {
			unwritten(t, "no call", c)
		}
	}
	if written < 4000 || written > 16000 {
		t.Errorf("%d of the calls were written", written)
	}
}

func TestReads(t *testing.T) {
	for kind := range 13 {
		if is := fcall.Reads(kind); is != (kind == 7 || kind == 8 || kind == 9 || kind == 10 || kind == 11) {
			t.Errorf("P18.1: Reads(%d) is %v", kind, is)
		}
	}
	for _, kind := range []int{-1, -7, -11, 12, 13, 255, 256 + 7, 1<<32 + 7, math.MaxInt, math.MinInt, math.MinInt + 9} {
		if fcall.Reads(kind) {
			t.Errorf("P18.1: Reads(%d)", kind)
		}
	}
}
