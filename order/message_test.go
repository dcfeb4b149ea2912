package order_test

import (
	"encoding/binary"
	"math"
	"slices"
	"strings"
	"testing"

	"harpsichord/api"
	"harpsichord/order"
)

// bytesOf are a message's bytes by the chapter's words, whatever is in it.
func bytesOf(m order.Message) string {
	b := []byte{byte(m.Kind)}
	for _, n := range []int{m.View, m.Normal, m.Number} {
		b = binary.BigEndian.AppendUint64(b, uint64(n))
	}
	b = append(b, byte(len(m.L)))
	for _, x := range m.L {
		b = binary.BigEndian.AppendUint64(b, uint64(x.View))
		b = binary.BigEndian.AppendUint64(b, uint64(x.Number))
		b = append(binary.BigEndian.AppendUint16(b, uint16(len(x.Body))), x.Body...)
	}
	return string(b)
}

// encoded asks for the bytes of a message, and that they are read as it again.
func encoded(t *testing.T, m order.Message) string {
	t.Helper()
	s, e := order.Encode(m)
	if e != api.OK || s != bytesOf(m) {
		t.Fatalf("P13: Encode(%s) is %q, %d, not %q", short(m), short(s), e, short(bytesOf(m)))
	}
	if x, e := order.Decode(s); e != api.OK || !same(x, m) {
		t.Fatalf("P13: Decode of Encode(%s) is %s, %d", short(m), short(x), e)
	}
	return s
}

// fits tells whether a message's bytes say all that is in it.
func fits(m order.Message) bool {
	tooLong := func(x api.Entry) bool { return len(x.Body) >= 1<<16 }
	return m.Kind>>8 == 0 && len(m.L)>>8 == 0 && !slices.ContainsFunc(m.L, tooLong)
}

// refused asks that something is no message, nor its bytes.
func refused(t *testing.T, what string, m order.Message) {
	t.Helper()
	if s, e := order.Encode(m); s != "" || e != api.ErrOrderForm {
		t.Errorf("P13: %s: Encode(%s) is %q, %d", what, short(m), short(s), e)
	}
	if fits(m) {
		unread(t, what, bytesOf(m))
	}
}

// unread asks that a text is no message.
func unread(t *testing.T, what, s string) {
	t.Helper()
	if m, e := order.Decode(s); !same(m, order.Message{}) || e != api.ErrOrderForm {
		t.Errorf("P13: %s: Decode(%q) is %s, %d", what, short(s), short(m), e)
	}
}

// six are a message of each kind, none of whose fields is zero that the kind uses.
func six() []order.Message {
	return []order.Message{
		ask(5),
		join(5, 3, lay("1a 3bc")),
		start(5, lay("1a 3bc 4")),
		put(5, 2, behind(2, "4x 5y")),
		ack(5, 7),
		tell(5, 9),
	}
}

func TestEncode(t *testing.T) {
	s := encoded(t, order.Message{Kind: 4, View: 0x0102030405060708, Number: 6, L: []api.Entry{{View: 0x0a0b, Number: 7, Body: "x\x00\xff"}, {View: 0x0c0d, Number: 8}}})
	want := []byte{4, 1, 2, 3, 4, 5, 6, 7, 8, 0, 0, 0, 0, 0, 0, 0, 0, 0, 0, 0, 0, 0, 0, 0, 6, 2,
		0, 0, 0, 0, 0, 0, 10, 11, 0, 0, 0, 0, 0, 0, 0, 7, 0, 3, 'x', 0, 255,
		0, 0, 0, 0, 0, 0, 12, 13, 0, 0, 0, 0, 0, 0, 0, 8, 0, 0}
	if s != string(want) {
		t.Errorf("P13: Encode is %v, not %v", []byte(s), want)
	}
	s = encoded(t, join(9, 8, lay("1a")))
	if s[:26] != "\x02\x00\x00\x00\x00\x00\x00\x00\x09\x00\x00\x00\x00\x00\x00\x00\x08\x00\x00\x00\x00\x00\x00\x00\x00\x01" {
		t.Errorf("P13: Encode of a Join is %q", s)
	}
	for _, m := range six() {
		encoded(t, m)
		if m.L == nil {
			m.L = []api.Entry{}
			encoded(t, m)
		}
	}
}

func TestKinds(t *testing.T) {
	for _, m := range six() {
		for _, kind := range []int{0, -1, 7, 8, 255, 256 + m.Kind, -256 + m.Kind, math.MaxInt, math.MinInt} {
			m.Kind = kind
			refused(t, "no such kind", m)
		}
	}
	refused(t, "nothing", order.Message{})
}

// Of each kind what it does not use, and a list of none, which is as good as nothing.
func TestWhatAKindDoesNotUse(t *testing.T) {
	normal := func(m order.Message) order.Message { m.Normal = 1; return m }
	number := func(m order.Message) order.Message { m.Number = 1; return m }
	list := func(m order.Message) order.Message { m.L = behind(m.Number, "1a"); return m }
	below := func(m order.Message) order.Message { m.Normal = -1; return m }
	for _, m := range []order.Message{normal(ask(5)), normal(start(5, nil)), normal(put(5, 0, nil)), normal(ack(5, 1)), normal(tell(5, 1)), below(ask(5)), below(tell(5, 1))} {
		refused(t, "a Normal that is not used", m)
	}
	for _, m := range []order.Message{number(ask(5)), number(join(5, 3, nil)), number(start(5, nil)), number(join(5, 3, lay("1a"))), number(start(5, behind(1, "1a")))} {
		refused(t, "a Number that is not used", m)
	}
	for _, m := range []order.Message{list(ask(5)), list(ack(5, 1)), list(tell(5, 1)), list(ack(5, 0)), list(tell(5, 0))} {
		refused(t, "a list that is not used", m)
	}
}

func TestViewsOfMessages(t *testing.T) {
	for _, kind := range []int{1, 2, 3, 4, 5, 6} {
		for _, view := range []int{1, 2, 1 << 32, mostView - 1, mostView} {
			encoded(t, order.Message{Kind: kind, View: view})
		}
		for _, view := range []int{0, -1, mostView + 1, math.MaxInt, math.MinInt} {
			refused(t, "no such View", order.Message{Kind: kind, View: view})
			refused(t, "no such View", order.Message{Kind: kind, View: view, Normal: view - 1})
		}
	}
}

func TestNormals(t *testing.T) {
	for _, view := range []int{1, 2, 5, mostView} {
		for _, normal := range []int{0, view / 2, view - 1} {
			encoded(t, join(view, normal, nil))
		}
		for _, normal := range []int{-1, view, view + 1, math.MaxInt, math.MinInt} {
			refused(t, "no such Normal", join(view, normal, nil))
		}
	}
}

func TestNumbers(t *testing.T) {
	for _, kind := range []int{4, 5, 6} {
		for _, number := range []int{0, 1, 149, 150} {
			encoded(t, order.Message{Kind: kind, View: 3, Number: number})
		}
		for _, number := range []int{-1, 151, 256, mostView, math.MaxInt, math.MinInt} {
			refused(t, "no such Number", order.Message{Kind: kind, View: 3, Number: number})
		}
	}
}

// What a Join's log, and a Start's, may be: a log, whose last View is Normal at most, or below View.
func TestLogsOfMessages(t *testing.T) {
	for _, words := range []string{"", "1a", "1a 1b 3c", "4a", "2a 4b", many(mostEntries, 4)} {
		encoded(t, join(5, 4, lay(words)))
		encoded(t, join(9, 4, lay(words)))
		encoded(t, start(5, lay(words)))
	}
	encoded(t, join(mostView, mostView-1, []api.Entry{{View: mostView - 1, Number: 1, Body: long(mostBody)}}))
	encoded(t, start(mostView, []api.Entry{{View: mostView - 1, Number: 1, Body: long(mostBody)}}))
	refused(t, "a View above Normal", join(9, 4, lay("1a 5b")))
	refused(t, "a View above Normal", join(9, 0, lay("1a")))
	refused(t, "a View above Normal", join(5, 4, lay("5a")))
	refused(t, "a View that is the Start's", start(5, lay("1a 5b")))
	refused(t, "a View above the Start's", start(5, lay("6a")))
	refused(t, "a View that is the Start's", start(1, lay("1a")))
	refused(t, "a View above 2^62", start(mostView, []api.Entry{{View: mostView + 1, Number: 1}}))
	for what, l := range map[string][]api.Entry{
		"Views that fall":    lay("2a 1b"),
		"a View of 0":        lay("0a"),
		"a View below 0":     {{View: -1, Number: 1}},
		"a long Body":        {{View: 1, Number: 1, Body: long(mostBody + 1)}},
		"a Number too great": behind(1, "1a"),
		"a Number too small": {{View: 1, Number: 0}},
		"a Number twice":     {{View: 1, Number: 1}, {View: 1, Number: 1}},
		"a Number left out":  {{View: 1, Number: 1}, {View: 1, Number: 3}},
		"too many":           lay(strings.Repeat("1a ", mostEntries+1)),
	} {
		refused(t, what, join(5, 4, l))
		refused(t, what, start(5, l))
	}
}

// What a Put's entries may be: such as stand behind Number others in a log, with Views to View.
func TestEntriesOfAPut(t *testing.T) {
	encoded(t, put(5, 0, nil))
	encoded(t, put(5, 150, nil))
	encoded(t, put(5, 0, lay("1a 5b 5c")))
	encoded(t, put(5, 149, behind(149, "5a")))
	encoded(t, put(5, 0, lay(many(mostEntries, 5))))
	encoded(t, put(5, 7, behind(7, many(mostEntries-7, 5))))
	encoded(t, put(5, 3, []api.Entry{{View: 5, Number: 4, Body: long(mostBody)}}))
	encoded(t, put(mostView, 3, []api.Entry{{View: mostView, Number: 4}}))
	refused(t, "a Put beyond 150", put(5, 150, behind(150, "5a")))
	refused(t, "a Put beyond 150", put(5, 149, behind(149, "5a 5b")))
	refused(t, "a Put beyond 150", put(5, 7, behind(7, strings.Repeat("1a ", mostEntries-6))))
	refused(t, "a Put of 151", put(5, 0, lay(strings.Repeat("1a ", mostEntries+1))))
	for what, l := range map[string][]api.Entry{
		"a first Number that is Number":       behind(2, "5a"),
		"a first Number of 1":                 lay("5a"),
		"a first Number that leaves one":      behind(4, "5a"),
		"a Number left out":                   {{View: 5, Number: 4}, {View: 5, Number: 6}},
		"a Number twice":                      {{View: 5, Number: 4}, {View: 5, Number: 4}},
		"a Number that is far":                {{View: 5, Number: math.MinInt + 3}},
		"Views that fall":                     behind(3, "3a 2b"),
		"a View of 0":                         behind(3, "0a"),
		"a View of 0 behind":                  behind(3, "1a 0a"),
		"a View below 0":                      {{View: -1, Number: 4}},
		"a View above View":                   behind(3, "6a"),
		"a View above View behind right ones": behind(3, "5a 6a"),
		"a Body of 201 bytes":                 {{View: 5, Number: 4, Body: long(mostBody + 1)}},
		"a Body of 201 bytes behind":          {{View: 5, Number: 4}, {View: 5, Number: 5, Body: long(mostBody + 1)}},
		"a Body that is very long":            {{View: 5, Number: 4, Body: long(1 << 16)}},
	} {
		refused(t, what, put(5, 3, l))
	}
}

// So many entries that their number, of which one byte is written, is a small one again.
func TestFarTooManyEntries(t *testing.T) {
	for _, n := range []int{255, 256, 257, 300} {
		l := lay(strings.Repeat("1a ", n))
		refused(t, "far too many", join(5, 4, l))
		refused(t, "far too many", start(5, l))
		refused(t, "far too many", put(5, 0, l))
	}
}

func TestTextsThatAreNoMessage(t *testing.T) {
	unread(t, "nothing", "")
	for _, m := range six() {
		s := encoded(t, m)
		for n := range len(s) {
			unread(t, "cut off", s[:n])
		}
		unread(t, "something behind", s+"\x00")
		unread(t, "twice", s+s)
		unread(t, "something ahead", "\x00"+s)
		unread(t, "one entry more", s[:25]+string(s[25]+1)+s[26:])
		unread(t, "entries without end", s[:25]+"\xff"+s[26:])
		if len(m.L) > 0 {
			unread(t, "one entry less", s[:25]+string(s[25]-1)+s[26:])
		}
		unread(t, "a View below 0", s[:1]+"\x80"+s[2:])
		unread(t, "a View above 2^62", s[:1]+"\x40"+s[2:])
	}
}

// What is read is what would be written, and nothing else: of messages with a few bytes that are other ones.
func TestWhatIsReadIsWhatIsWritten(t *testing.T) {
	roll := dice(1)
	read := 0
	for range 60000 {
		b := []byte(bytesOf(pick(roll, six()...)))
		for range 1 + roll(2) {
			b[roll(len(b))] = byte(pick(roll, roll(6), roll(6), roll(256)))
		}
		m, e := order.Decode(string(b))
		if e != api.OK {
			unread(t, "with other bytes", string(b))
			continue
		}
		read++
		if s, e := order.Encode(m); e != api.OK || s != string(b) {
			t.Fatalf("P13: Encode(Decode(%q)) is %q, %d", b, s, e)
		}
	}
	if read < 5000 {
		t.Errorf("only %d were read", read)
	}
}

func TestMessagesThatAreGivenStay(t *testing.T) {
	for _, m := range []order.Message{join(5, 3, lay("1a 3b")), put(5, 2, behind(2, "4x 5y")), put(5, 2, behind(3, "4x")), start(5, lay("4a 3b"))} {
		given := append(m.L, api.Entry{View: 9, Number: 9, Body: "behind"})
		was := slices.Clone(given)
		m.L = given[:len(m.L)]
		order.Encode(m)
		if !slices.Equal(given, was) {
			t.Errorf("R5: Encode changed %v into %v", was, given)
		}
	}
}

func TestWhatIsReadIsTheCallersOwn(t *testing.T) {
	s := encoded(t, put(5, 2, behind(2, "4x 5y")))
	m, _ := order.Decode(s)
	m.L[0].Body = "changed"
	if x, e := order.Decode(s); e != api.OK || !same(x, put(5, 2, behind(2, "4x 5y"))) {
		t.Errorf("R6: Decode is %s, %d", short(x), e)
	}
}
