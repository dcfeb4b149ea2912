package crate_test

import (
	"bytes"
	"encoding/binary"
	"fmt"
	"hash/crc32"
	"math"
	"slices"
	"strings"
	"testing"

	"harpsichord/api"
	"harpsichord/crate"
)

// show is a thing as a line that can be read, however long it is.
func show(thing any) string {
	s := fmt.Sprintf("%q", thing)
	return s[:min(len(s), 300)]
}

// number is four bytes, the lowest first.
func number(n uint32) string {
	return string(binary.LittleEndian.AppendUint32(nil, n))
}

// sumOf is reckoned by the library, so that these tests lean on no layer.
func sumOf(s string) uint32 {
	return crc32.Checksum([]byte(s), crc32.MakeTable(crc32.Castagnoli))
}

// headOf is a length with its right sum.
func headOf(n uint32) string {
	return number(n) + number(sumOf(number(n)))
}

// crateOf is a body's crate by the document's words, however long the body is.
func crateOf(body string) string {
	return headOf(uint32(len(body))) + body + number(sumOf(body))
}

// noise is a text of n bytes, the same one at each call.
func noise(n int) string {
	b := make([]byte, n)
	state := uint32(n) + 1
	for k := range b {
		state = state*1664525 + 1013904223
		b[k] = byte(state >> 24)
	}
	return string(b)
}

// bodies are such as may be put.
func bodies() []string {
	l := []string{"", "\x00", "\xff", "ab", "123456789", "\x00\x00\x00\x00", strings.Repeat("\xff", 32), crateOf(""), crateOf("ab"), crateOf("ab") + "x"}
	for _, n := range []int{3, 4, 7, 8, 9, 12, 63, 64, 65, 255, 256, 257, 1024, api.MaxRecord - 1, api.MaxRecord} {
		l = append(l, noise(n))
	}
	return append(l, strings.Repeat("\x00", api.MaxRecord))
}

// short are those of them whose crates may be gone through bit by bit.
func short() []string {
	return slices.DeleteFunc(bodies(), func(s string) bool { return len(s) > 40 })
}

// holdPut asks that no bytes stand beside an error.
func holdPut(t *testing.T, body, want string, e api.Errno) {
	t.Helper()
	b, got := crate.Put([]byte(body))
	if string(b) != want || got != e || got != api.OK && b != nil {
		t.Errorf("P3.1: Put(%s) is %s, %d, not %s, %d", show(body), show(b), got, show(want), e)
	}
}

func holdGet(t *testing.T, b, body string, size int) {
	t.Helper()
	got, n, e := crate.Get([]byte(b))
	if string(got) != body || n != size || e != api.OK {
		t.Errorf("P3.2: Get(%s) is %s, %d, %d, not %s, %d", show(b), show(got), n, e, show(body), size)
	}
}

// holdRefused asks that no body and no number stand beside the error.
func holdRefused(t *testing.T, b string, e api.Errno) {
	t.Helper()
	body, n, got := crate.Get([]byte(b))
	if body != nil || n != 0 || got != e {
		t.Errorf("P3.2: Get(%s) is %s, %d, %d, not %d", show(b), show(body), n, got, e)
	}
}

func holdSplit(t *testing.T, b string, want []string, left int, e api.Errno) {
	t.Helper()
	l, n, got := crate.Split([]byte(b))
	if !slices.Equal(texts(l), want) || n != left || got != e {
		t.Errorf("P3.3: Split(%s) is %s, %d, %d, not %s, %d, %d", show(b), show(l), n, got, show(want), left, e)
	}
}

func texts(l [][]byte) []string {
	var told []string
	for _, b := range l {
		told = append(told, string(b))
	}
	return told
}

func TestExamples(t *testing.T) {
	nothing := "\x00\x00\x00\x00\xc7\x4b\x67\x48\x00\x00\x00\x00"
	holdPut(t, "", nothing, api.OK)
	if b, e := crate.Put(nil); string(b) != nothing || e != api.OK {
		t.Errorf("P3.1: Put(nil) is %s, %d", show(b), e)
	}
	holdSplit(t, nothing+nothing+"x", []string{"", ""}, 1, api.OK)
	holdGet(t, nothing, "", 12)
}

// The numbers stand here byte by byte: the tests' own crates can be held against them.
func TestPutLaysTheLowestByteFirst(t *testing.T) {
	holdPut(t, "123456789", "\x09\x00\x00\x00"+number(sumOf("\x09\x00\x00\x00"))+"123456789\x83\x92\x06\xe3", api.OK)
	b, e := crate.Put([]byte(noise(0x0201)))
	if e != api.OK || len(b) != 0x0201+12 || string(b[:4]) != "\x01\x02\x00\x00" {
		t.Errorf("P3.1: Put of 513 bytes is %s, %d", show(b), e)
	}
}

func TestPut(t *testing.T) {
	for _, body := range bodies() {
		holdPut(t, body, crateOf(body), api.OK)
	}
}

func TestPutRefusesWhatIsTooLong(t *testing.T) {
	for _, n := range []int{api.MaxRecord + 1, api.MaxRecord + 2, 2 * api.MaxRecord, 1<<16 - 1, 1 << 16, 1<<16 + 1, 1 << 20} {
		holdPut(t, noise(n), "", api.ErrCrateForm)
	}
}

func TestGet(t *testing.T) {
	for _, body := range bodies() {
		b := crateOf(body)
		for _, behind := range []string{"", "\x00", "\xff", "abc", crateOf(""), crateOf("other"), noise(5000)} {
			holdGet(t, b+behind, body, len(b))
		}
	}
}

func TestGetOfFewerThanEightBytes(t *testing.T) {
	if body, n, e := crate.Get(nil); body != nil || n != 0 || e != api.ErrCrateEnd {
		t.Errorf("P3.2: Get(nil) is %s, %d, %d", show(body), n, e)
	}
	for n := range 8 {
		for _, s := range []string{headOf(0), headOf(api.MaxRecord + 1), "\x00\x00\x00\x00\x00\x00\x00\x00", "\xff\xff\xff\xff\xff\xff\xff\xff", noise(8)} {
			holdRefused(t, s[:n], api.ErrCrateEnd)
		}
	}
}

func TestGetOfACrateThatIsCutOff(t *testing.T) {
	for _, body := range bodies() {
		b := crateOf(body)
		for cut := range b {
			holdRefused(t, b[:cut], api.ErrCrateEnd)
		}
	}
}

// tooLong are lengths above MaxRecord, among them such as are below 0 if 32 bits are read with a sign, and such as pass the end of 32 bits with what else a crate has.
func tooLong() []uint32 {
	return []uint32{api.MaxRecord + 1, api.MaxRecord + 2, 1 << 13, 1 << 16, 1<<16 + 1, 1 << 24, 1<<24 + 2, math.MaxInt32 - 12, math.MaxInt32, 1 << 31, 1<<31 + 2, math.MaxUint32 - 12, math.MaxUint32 - 8, math.MaxUint32}
}

func TestGetRefusesWhatWouldBeTooLong(t *testing.T) {
	for _, n := range tooLong() {
		for _, behind := range []string{"", "ab", noise(5000), noise(1 << 17)} {
			holdRefused(t, headOf(n)+behind, api.ErrCrateForm)
		}
	}
	for _, n := range []int{api.MaxRecord + 1, api.MaxRecord + 2, 1 << 16} {
		holdRefused(t, crateOf(noise(n)), api.ErrCrateForm)
		holdRefused(t, crateOf(noise(n))+"behind", api.ErrCrateForm)
	}
}

func TestGetRefusesTheFirstSum(t *testing.T) {
	for _, body := range bodies() {
		rest := body + number(sumOf(body))
		length := number(uint32(len(body)))
		right := sumOf(length)
		for _, wrong := range []uint32{right + 1, right - 1, ^right, right ^ 1<<31, right<<8 | right>>24, sumOf(body) ^ 5, sumOf(length + body)} {
			if wrong != right {
				holdRefused(t, length+number(wrong)+rest, api.ErrCrateSum)
				holdRefused(t, length+number(wrong)+rest+"behind", api.ErrCrateSum)
			}
		}
	}
}

func TestGetRefusesTheSecondSum(t *testing.T) {
	for _, body := range bodies() {
		right := sumOf(body)
		begun := headOf(uint32(len(body))) + body
		for _, wrong := range []uint32{right + 1, right - 1, ^right, right ^ 1<<31, right ^ 1<<8, sumOf(begun), sumOf(begun[:8])} {
			if wrong != right {
				holdRefused(t, begun+number(wrong), api.ErrCrateSum)
				holdRefused(t, begun+number(wrong)+"behind", api.ErrCrateSum)
			}
		}
	}
}

func TestGetTellsWhatIsNamedFirst(t *testing.T) {
	badHead := func(n uint32) string { return number(n) + number(^sumOf(number(n))) }
	badSum := number(^sumOf("ab"))
	for _, c := range []struct {
		name, b string
		e       api.Errno
	}{
		{"seven bytes, the first sum wrong", badHead(2)[:7], api.ErrCrateEnd},
		{"seven bytes, too long", headOf(5000)[:7], api.ErrCrateEnd},
		{"seven bytes, the first sum wrong and too long", badHead(5000)[:7], api.ErrCrateEnd},
		{"first sum wrong, too long", badHead(5000) + noise(5004), api.ErrCrateSum},
		{"first sum wrong, much too long", badHead(math.MaxUint32), api.ErrCrateSum},
		{"first sum wrong, cut off", badHead(2), api.ErrCrateSum},
		{"first sum wrong, cut off within the body", badHead(2) + "a", api.ErrCrateSum},
		{"first sum wrong, cut off ahead of the last byte", badHead(2) + "ab" + badSum[:3], api.ErrCrateSum},
		{"first sum wrong, too long, cut off", badHead(5000) + "ab", api.ErrCrateSum},
		{"both sums wrong", badHead(2) + "ab" + badSum, api.ErrCrateSum},
		{"too long, cut off", headOf(5000) + "ab", api.ErrCrateForm},
		{"too long, nothing behind", headOf(5000), api.ErrCrateForm},
		{"too long, second sum wrong", headOf(5000) + noise(5000) + number(^sumOf(noise(5000))), api.ErrCrateForm},
		{"cut off, second sum wrong so far", headOf(2) + "ab" + badSum[:3], api.ErrCrateEnd},
		{"cut off, another body", headOf(2) + "xy" + number(sumOf("ab"))[:3], api.ErrCrateEnd},
		{"all of a crate of 4096 but a byte, another body", (headOf(4096) + noise(4096) + badSum)[:4107], api.ErrCrateEnd},
	} {
		if body, n, e := crate.Get([]byte(c.b)); body != nil || n != 0 || e != c.e {
			t.Errorf("P3.2: %s: %s, %d, %d, not %d", c.name, show(body), n, e, c.e)
		}
		holdSplit(t, crateOf("ahead")+c.b, []string{"ahead"}, len(c.b), later(c.e))
	}
}

// later is what Split makes of an error of Get.
func later(e api.Errno) api.Errno {
	if e == api.ErrCrateEnd {
		return api.OK
	}
	return e
}

func TestSplitOfNothing(t *testing.T) {
	holdSplit(t, "", nil, 0, api.OK)
	if l, n, e := crate.Split(nil); len(l) != 0 || n != 0 || e != api.OK {
		t.Errorf("P3.3: Split(nil) is %s, %d, %d", show(l), n, e)
	}
}

func TestSplitOfWholeCrates(t *testing.T) {
	all := ""
	for k, body := range bodies() {
		holdSplit(t, crateOf(body), []string{body}, 0, api.OK)
		all += crateOf(body)
		holdSplit(t, all, bodies()[:k+1], 0, api.OK)
	}
}

func TestSplitOfCratesThatAreCutOff(t *testing.T) {
	want := short()
	all := ""
	for _, body := range want {
		all += crateOf(body)
	}
	for cut := range len(all) + 1 {
		left, whole := cut, 0
		for whole < len(want) && left >= len(want[whole])+12 {
			left -= len(want[whole]) + 12
			whole++
		}
		holdSplit(t, all[:cut], want[:whole], left, api.OK)
	}
}

func TestSplitOfDamagedCrates(t *testing.T) {
	for _, body := range short() {
		for _, ahead := range [][]string{nil, {"ab"}, {"", "123456789", noise(20)}} {
			begun := ""
			for _, s := range ahead {
				begun += crateOf(s)
			}
			b := crateOf(body)
			for at := range b {
				bad := []byte(b)
				bad[at] ^= 0x10
				for _, behind := range []string{"", "x", crateOf("behind")} {
					holdSplit(t, begun+string(bad)+behind, ahead, len(bad)+len(behind), api.ErrCrateSum)
				}
			}
		}
	}
}

func TestSplitOfWhatWouldBeTooLong(t *testing.T) {
	for _, n := range tooLong() {
		for _, behind := range []string{"", "x", crateOf("behind"), noise(5000)} {
			holdSplit(t, headOf(n)+behind, nil, 8+len(behind), api.ErrCrateForm)
			holdSplit(t, crateOf("ab")+crateOf("")+headOf(n)+behind, []string{"ab", ""}, 8+len(behind), api.ErrCrateForm)
		}
	}
	long := crateOf(noise(api.MaxRecord + 1))
	holdSplit(t, crateOf("ab")+long+crateOf("cd"), []string{"ab"}, len(long)+14, api.ErrCrateForm)
}

func TestSplitOfVeryMany(t *testing.T) {
	const many = 1 << 17
	l, n, e := crate.Split([]byte(strings.Repeat(crateOf("ab"), many) + crateOf("cd")[:13]))
	if len(l) != many || n != 13 || e != api.OK {
		t.Fatalf("P3.3: Split of %d crates is %d bodies, %d, %d", many, len(l), n, e)
	}
	for _, body := range l {
		if string(body) != "ab" {
			t.Fatalf("P3.3: Split of many crates tells %s", show(body))
		}
	}
}

func TestWhatWasPutIsGot(t *testing.T) {
	source := noise(2 * api.MaxRecord)
	for n := range api.MaxRecord + 1 {
		body := source[n : 2*n]
		b, e := crate.Put([]byte(body))
		if e != api.OK {
			t.Fatalf("P3.4: Put of %d bytes is %d", n, e)
		}
		behind := source[:n%9]
		got, size, e := crate.Get(append(b, behind...))
		if string(got) != body || size != len(b) || e != api.OK {
			t.Fatalf("P3.4: Get of Put of %d bytes, with %d behind, is %s, %d, %d", n, len(behind), show(got), size, e)
		}
	}
}

// parts are where a crate's four parts begin, and where the last one ends.
func parts(b string) [5]int {
	return [5]int{0, 4, 8, len(b) - 4, len(b)}
}

// patterns are ways to turn bits of 32: each pair (or one alone), each row that begins with the first bit, and mixed ones.
func patterns() []uint32 {
	var l []uint32
	for a := range 32 {
		for b := range a + 1 {
			l = append(l, 1<<a|1<<b)
		}
		l = append(l, uint32(2)<<a-1)
	}
	state := uint32(1)
	for range 200 {
		state = state*1664525 + 1013904223
		l = append(l, state)
	}
	return append(l, 0x82f63b78, 0x05ec76f1, 0x1edc6f41)
}

// turn turns the bits of pattern from bit number at on, the lowest bit of a byte first, but none from end on; it says whether there were any.
func turn(b []byte, at, end int, pattern uint32) bool {
	if left := end - at; left < 32 {
		pattern &= 1<<left - 1
	}
	for k := range 32 {
		if pattern>>k&1 == 1 {
			b[(at+k)/8] ^= 1 << ((at + k) % 8)
		}
	}
	return pattern != 0
}

// holdTurned asks for ErrCrateSum, and for nothing beside it, unless none of the bits lies within the part.
func holdTurned(t *testing.T, b string, at, end int, pattern uint32) {
	t.Helper()
	bad := []byte(b)
	if !turn(bad, at, end, pattern) {
		return
	}
	if body, n, e := crate.Get(bad); body != nil || n != 0 || e != api.ErrCrateSum {
		t.Fatalf("P3.4: %s with bits %08x turned from %d on: Get is %s, %d, %d", show(b), pattern, at, show(body), n, e)
	}
}

func TestTurnedBitsAreFound(t *testing.T) {
	for _, body := range short() {
		b := crateOf(body)
		for part := range 4 {
			begin, end := 8*parts(b)[part], 8*parts(b)[part+1]
			for at := begin; at < end; at++ {
				for _, p := range patterns() {
					holdTurned(t, b, at, end, p)
					holdTurned(t, b+"behind", at, end, p)
				}
			}
		}
	}
}

// Long crates are gone through here and there: at the ends of each part, and in steps that meet each bit of a byte.
func TestTurnedBitsOfLongCratesAreFound(t *testing.T) {
	few := []uint32{1, 3, 1 << 31, math.MaxUint32, 0x82f63b78, 0x80000001}
	for _, n := range []int{1024, api.MaxRecord - 1, api.MaxRecord} {
		b := crateOf(noise(n))
		for part := range 4 {
			begin, end := 8*parts(b)[part], 8*parts(b)[part+1]
			for at := begin; at < end; at++ {
				if at-begin > 40 && end-at > 40 && at%131 != 0 {
					continue
				}
				for _, p := range few {
					holdTurned(t, b, at, end, p)
				}
			}
		}
	}
}

func TestWhatIsGivenStaysAsItWas(t *testing.T) {
	for _, s := range []string{"", "ab", crateOf("ab"), crateOf("ab") + crateOf("") + "x", headOf(5000), noise(20)} {
		room := []byte(s + "behind")
		b := room[:len(s)]
		crate.Put(b)
		crate.Get(b)
		crate.Split(b)
		if string(room) != s+"behind" {
			t.Errorf("R5: what was handed in, or what stands behind it, is other now: %s", show(room))
		}
	}
}

func TestACrateIsTheCallers(t *testing.T) {
	body := []byte("ab")
	first, _ := crate.Put(body)
	second, _ := crate.Put(body)
	scrawl(first)
	if string(body) != "ab" || string(second) != crateOf("ab") {
		t.Error("R6: to write into what Put told changes something else")
	}
	clear(body)
	if string(second) != crateOf("ab") {
		t.Error("R6: what Put told changes with what was handed in")
	}
}

// scrawl writes over a text and over what could stand behind it in its memory.
func scrawl(b []byte) {
	b = b[:cap(b)]
	for k := range b {
		b[k] = '#'
	}
}

func TestABodyHasMemoryOfItsOwn(t *testing.T) {
	for _, body := range []string{"", "a", "ab", noise(api.MaxRecord)} {
		s := crateOf(body) + crateOf("cd")
		b := []byte(s)
		first, _, _ := crate.Get(b)
		second, _, _ := crate.Get(b)
		scrawl(first)
		if string(b) != s || string(second) != body {
			t.Errorf("P3.2: to write into the body %s changes something else", show(body))
		}
		clear(b)
		if string(second) != body {
			t.Errorf("P3.2: the body %s changes with what was handed in", show(body))
		}
	}
}

func TestBodiesHaveMemoryOfTheirOwn(t *testing.T) {
	want := []string{"ab", "", "cd", noise(300), ""}
	s := ""
	for _, body := range want {
		s += crateOf(body)
	}
	for at := range want {
		b := []byte(s)
		l, _, _ := crate.Split(b)
		if !slices.Equal(texts(l), want) {
			t.Fatalf("P3.3: Split is %s", show(l))
		}
		scrawl(l[at])
		if string(b) != s {
			t.Errorf("R6: to write into body %d changes what was handed in", at)
		}
		clear(b)
		l[at] = []byte(want[at])
		if !slices.Equal(texts(l), want) {
			t.Errorf("R6: to write into body %d, or into what was handed in, changes other bodies: %s", at, show(l))
		}
	}
}

func TestTheSameCallsTellTheSame(t *testing.T) {
	b := []byte(crateOf("ab") + crateOf("cd") + "x")
	for range 3 {
		l, n, e := crate.Split(b)
		if !slices.Equal(texts(l), []string{"ab", "cd"}) || n != 1 || e != api.OK {
			t.Errorf("R7: Split is %s, %d, %d", show(l), n, e)
		}
		x, _ := crate.Put(b)
		y, _ := crate.Put(b)
		if !bytes.Equal(x, y) {
			t.Error("R7: Put tells another crate")
		}
	}
}
