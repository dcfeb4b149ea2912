package zname_test

import (
	"fmt"
	"math"
	"regexp"
	"slices"
	"strconv"
	"strings"
	"testing"
	"unsafe"

	"harpsichord/api"
	"harpsichord/zname"
)

// greatest is the last number that has ten digits.
const greatest = 9999999999

// letters are all bytes that a name may have.
const letters = "abcdefghijklmnopqrstuvwxyzABCDEFGHIJKLMNOPQRSTUVWXYZ0123456789.-_"

// show is a text as one that can be read, however long it is.
func show(s string) string {
	q := fmt.Sprintf("%d bytes %+q", len(s), s)
	return q[:min(len(q), 200)]
}

// long is a name of n bytes.
func long(n int) string {
	return strings.Repeat("n", n)
}

// deep is a path of n names.
func deep(n int) string {
	return strings.Repeat("/d", n)
}

// holdPath asks what is told of a path: how many names it has, the last one, and the path without it (nothing, if there is none).
func holdPath(t *testing.T, path string, depth int, parent, base string) {
	t.Helper()
	if !zname.Valid(path) {
		t.Errorf("P7.1: Valid(%s) is false", show(path))
	}
	if n := zname.Depth(path); n != depth {
		t.Errorf("P7.1: Depth(%s) is %d, not %d", show(path), n, depth)
	}
	if s := zname.Base(path); s != base {
		t.Errorf("P7.1: Base(%s) is %s, not %s", show(path), show(s), show(base))
	}
	if s, is := zname.Parent(path); s != parent || is != (parent != "") {
		t.Errorf("P7.1: Parent(%s) is %s, %v, not %s", show(path), show(s), is, show(parent))
	}
}

// holdNone asks that a text is no path to any call.
func holdNone(t *testing.T, path string) {
	t.Helper()
	if zname.Valid(path) {
		t.Errorf("P7.1: Valid(%s) is true", show(path))
	}
	if n := zname.Depth(path); n != -1 {
		t.Errorf("P7.1: Depth(%s) is %d, not -1", show(path), n)
	}
	if s := zname.Base(path); s != "" {
		t.Errorf("P7.1: Base(%s) is %s, not nothing", show(path), show(s))
	}
	if s, is := zname.Parent(path); s != "" || is {
		t.Errorf("P7.1: Parent(%s) is %s, %v, not nothing", show(path), show(s), is)
	}
	if s, is := zname.Join(path, "a"); s != "" || is {
		t.Errorf("P7.2: Join(%s, a) is %s, %v, not nothing", show(path), show(s), is)
	}
	for _, other := range []string{path, "/", "/a", "/a/b"} {
		if zname.Under(path, other) || zname.Under(other, path) {
			t.Errorf("P7.2: Under of %s and %s is true", show(path), show(other))
		}
	}
	if s, is := zname.Number(path, 7); s != "" || is {
		t.Errorf("P7.3: Number(%s, 7) is %s, %v, not nothing", show(path), show(s), is)
	}
	holdCut(t, path+"0000000007", "", 0)
}

// holdJoin asks for a joined path; for nothing and false, where want is nothing.
func holdJoin(t *testing.T, parent, name, want string) {
	t.Helper()
	if s, is := zname.Join(parent, name); s != want || is != (want != "") {
		t.Errorf("P7.2: Join(%s, %s) is %s, %v, not %s", show(parent), show(name), show(s), is, show(want))
	}
}

// holdUnder asks whether a path is under another one.
func holdUnder(t *testing.T, path, top string, want bool) {
	t.Helper()
	if zname.Under(path, top) != want {
		t.Errorf("P7.2: Under(%s, %s) is %v", show(path), show(top), !want)
	}
}

// holdNumber asks for a numbered path; for nothing and false, where want is nothing.
func holdNumber(t *testing.T, path string, n int, want string) {
	t.Helper()
	if s, is := zname.Number(path, n); s != want || is != (want != "") {
		t.Errorf("P7.3: Number(%s, %d) is %s, %v, not %s", show(path), n, show(s), is, show(want))
	}
}

// holdCut asks for what a path is cut into; for nothing, 0 and false, where want is nothing.
func holdCut(t *testing.T, path, want string, number int) {
	t.Helper()
	if s, n, is := zname.Cut(path); s != want || n != number || is != (want != "") {
		t.Errorf("P7.3: Cut(%s) is %s, %d, %v, not %s, %d", show(path), show(s), n, is, show(want), number)
	}
}

func TestExamples(t *testing.T) {
	for _, c := range []struct {
		path string
		want bool
	}{{"/a/b", true}, {"/a/", false}, {"/a//b", false}, {"/", true}} {
		if zname.Valid(c.path) != c.want {
			t.Errorf("P7.1: Valid(%s) is %v", c.path, !c.want)
		}
	}
	holdNumber(t, "/a/n-", 7, "/a/n-0000000007")
	holdCut(t, "/a/n-0000000007", "/a/n-", 7)
	holdNumber(t, "/a/n-", 0, "/a/n-0000000000") // these two: of the whole document
	holdNumber(t, "/a/n-", 1, "/a/n-0000000001")
}

func TestPaths(t *testing.T) {
	holdPath(t, "/", 0, "", "")
	holdPath(t, "/a", 1, "/", "a")
	holdPath(t, "/a/b", 2, "/a", "b")
	holdPath(t, "/a/b/c", 3, "/a/b", "c")
	holdPath(t, "/ab", 1, "/", "ab")
	holdPath(t, "/ab/cd", 2, "/ab", "cd")
	holdPath(t, "/a/a/a", 3, "/a/a", "a")
	holdPath(t, "/a-b/c_d/E.f", 3, "/a-b/c_d", "E.f")
	holdPath(t, "/vol-1/view", 2, "/vol-1", "view")
	holdPath(t, "/0/1", 2, "/0", "1")
}

func TestNoPaths(t *testing.T) {
	for _, s := range []string{
		"",
		"//", "///", "/////////",
		"/a/", "/a/b/", "/a//", "/ab/",
		"//a", "/a//b", "/a/b//c", "///a",
		"a", "ab", "a/", "a/b", "a/b/", ".", "..", "-", "0", " /a", " ", "\\a", "a//b",
		"/a b", "/a /b", "/ a", "/a ", "/ ", "/a\n", "/\x00", "/a\x00", "/a\x00/b", "/*", "/a:b", "/a\\b", "/~",
	} {
		holdNone(t, s)
	}
}

func TestNamesOfPoints(t *testing.T) {
	for _, s := range []string{"/.", "/..", "/./a", "/../a", "/a/.", "/a/..", "/a/./b", "/a/../b", "/./.", "/../..", "/a/b/.", "/a/b/.."} {
		holdNone(t, s)
	}
	holdPath(t, "/...", 1, "/", "...")
	holdPath(t, "/a/...", 2, "/a", "...")
	holdPath(t, "/.../a", 2, "/...", "a")
	holdPath(t, "/....", 1, "/", "....")
	for _, name := range []string{".a", "a.", "..a", "a..", ".-", "-.", "._", "._.", ".0", "a.b", "a..b", "-", "--", "_", "__"} {
		holdPath(t, "/"+name, 1, "/", name)
		holdPath(t, "/a/"+name, 2, "/a", name)
	}
}

func TestLengthsOfNames(t *testing.T) {
	for _, n := range []int{1, 2, api.MaxName - 1, api.MaxName} {
		name := long(n)
		holdPath(t, "/"+name, 1, "/", name)
		holdPath(t, "/"+name+"/a", 2, "/"+name, "a")
		holdPath(t, "/a/"+name, 2, "/a", name)
		holdPath(t, "/a/"+name+"/"+name, 3, "/a/"+name, name)
	}
	for _, n := range []int{api.MaxName + 1, api.MaxName + 2, 2*api.MaxName + 1, 256, 257, 1 << 16, 1 << 20} {
		name := long(n)
		holdNone(t, "/"+name)
		holdNone(t, "/"+name+"/a")
		holdNone(t, "/a/"+name)
		holdNone(t, "/a/"+name+"/b")
	}
	all := strings.Repeat("/"+long(api.MaxName), api.MaxDepth)
	holdPath(t, all, api.MaxDepth, all[:len(all)-api.MaxName-1], long(api.MaxName))
	holdNone(t, all+"n")
}

func TestDepths(t *testing.T) {
	holdPath(t, "/d", 1, "/", "d")
	for n := 2; n <= api.MaxDepth; n++ {
		holdPath(t, deep(n), n, deep(n-1), "d")
		holdPath(t, deep(n-1)+"/last", n, deep(n-1), "last")
		holdNone(t, deep(n)+"/")
	}
	for _, n := range []int{api.MaxDepth + 1, api.MaxDepth + 2, 2 * api.MaxDepth, 256, 257, 1 << 18} {
		holdNone(t, deep(n))
		holdNone(t, deep(n)+"/")
	}
	holdNone(t, deep(api.MaxDepth)[1:])
	holdNone(t, deep(api.MaxDepth + 1)[1:])
	holdNone(t, deep(api.MaxDepth-1)+"//d")
	holdNone(t, strings.Repeat("/", 1<<20))
}

// Each byte, in each place of a name.
func TestBytesOfNames(t *testing.T) {
	for k := range 256 {
		c := string([]byte{byte(k)})
		if c == "/" {
			continue
		}
		allowed := strings.Contains(letters, c)
		for _, name := range []string{c, c + "x", "x" + c, "x" + c + "y", long(59) + c} {
			if !allowed || name == "." {
				holdNone(t, "/"+name)
				holdNone(t, "/"+name+"/a")
				holdJoin(t, "/", name, "")
				continue
			}
			holdPath(t, "/"+name, 1, "/", name)
			holdPath(t, "/"+name+"/a", 2, "/"+name, "a")
			holdJoin(t, "/", name, "/"+name)
			holdJoin(t, "/a", name, "/a/"+name)
		}
	}
}

// No rune but those of one allowed byte: neither one whose last byte would be allowed, nor another alphabet's letter or digit.
func TestRunesOfNames(t *testing.T) {
	for c := rune(128); c <= 0x10ffff; c++ {
		if zname.Valid("/" + string(c)) {
			t.Fatalf("P7.1: Valid of a slash and U+%04X is true", c)
		}
	}
	for _, s := range []string{"\u00e9", "e\u0301", "\u00df", "\u0161", "\u0661", "\uff41", "\uff10", "\u212a", "\ufffd", "\U0001f600", "\ufeff"} {
		holdNone(t, "/"+s)
		holdNone(t, "/a"+s)
		holdNone(t, "/"+s+"a/b")
		holdNone(t, s+"/a")
		holdJoin(t, "/a", s, "")
	}
}

func TestTextsThatAreNoUTF8(t *testing.T) {
	for _, s := range []string{"\x80", "\xff", "\xfe\xff", "\xc3", "\xc0\xaf", "\xc1\xa1", "\xe1\x80", "\xed\xa0\x80", "\xf0\x80\x80\xaf", "\xf4\x90\x80\x80"} {
		holdNone(t, s)
		holdNone(t, s+"/a")
		holdNone(t, "/"+s)
		holdNone(t, "/a"+s)
		holdNone(t, "/"+s+"/a")
		holdNone(t, "/a/"+s+"a")
		holdJoin(t, "/", s, "")
		holdCut(t, "/a"+s+"0000000001", "", 0)
		holdCut(t, "/a000000000"+s, "", 0)
	}
}

func TestJoin(t *testing.T) {
	holdJoin(t, "/", "a", "/a")
	holdJoin(t, "/a", "b", "/a/b")
	holdJoin(t, "/a/b", "c", "/a/b/c")
	holdJoin(t, "/a", "a", "/a/a")
	holdJoin(t, "/", "...", "/...")
	holdJoin(t, "/a", "n-0000000001", "/a/n-0000000001")
	for _, parent := range []string{"/", "/a", "/a/b"} {
		for _, name := range []string{"", "/", "//", "a/b", "/a", "a/", "a//b", ".", "..", "a b", "\x00", "a\x00", "\u00e9", "\xff", long(api.MaxName + 1), long(1 << 16)} {
			holdJoin(t, parent, name, "")
		}
	}
	for _, parent := range []string{"", "a", "a/b", "//", "/a/", "/a//b", "/.", "/..", "/a b", "/" + long(api.MaxName+1), "\xff"} {
		for _, name := range []string{"a", "", "..", "/a"} {
			holdJoin(t, parent, name, "")
		}
	}
}

func TestJoinAtTheLimits(t *testing.T) {
	name := long(api.MaxName)
	holdJoin(t, "/", name, "/"+name)
	holdJoin(t, "/"+name, name, "/"+name+"/"+name)
	path := "/"
	for n := range api.MaxDepth {
		next, is := zname.Join(path, name)
		if !is || zname.Depth(next) != n+1 {
			t.Fatalf("P7.2: Join(%s, %s) is %s, %v", show(path), show(name), show(next), is)
		}
		path = next
	}
	holdJoin(t, path, "a", "")
	holdJoin(t, path, "", "")
	holdJoin(t, deep(api.MaxDepth-1), "a", deep(api.MaxDepth-1)+"/a")
	holdJoin(t, deep(api.MaxDepth), "a", "")
	holdJoin(t, deep(api.MaxDepth+1), "a", "")
}

func TestUnder(t *testing.T) {
	for _, path := range []string{"/", "/a", "/a/b", "/...", deep(api.MaxDepth), "/" + long(api.MaxName)} {
		holdUnder(t, path, path, true)
		holdUnder(t, path, "/", true)
		holdUnder(t, "/", path, path == "/")
	}
	holdUnder(t, "/a/b", "/a", true)
	holdUnder(t, "/a/b/c", "/a", true)
	holdUnder(t, "/a/b/c", "/a/b", true)
	holdUnder(t, deep(api.MaxDepth), "/d", true)
	holdUnder(t, deep(api.MaxDepth), deep(api.MaxDepth-1), true)
	holdUnder(t, "/a", "/a/b", false)
	holdUnder(t, "/a/b", "/b", false)
	holdUnder(t, "/b/a", "/a", false)
	holdUnder(t, "/a/b/c", "/b", false)
	holdUnder(t, "/a/b", "/a/c", false)
	holdUnder(t, "/a/c/b", "/a/b", false)
	holdUnder(t, "/a", "/A", false)
}

// Names are whole: the same bytes ahead are not enough.
func TestUnderOfTheSameBytes(t *testing.T) {
	holdUnder(t, "/ab", "/a", false)
	holdUnder(t, "/a", "/ab", false)
	holdUnder(t, "/ab/c", "/a", false)
	holdUnder(t, "/a/bc", "/a/b", false)
	holdUnder(t, "/a/bc/d", "/a/b", false)
	holdUnder(t, "/a-b", "/a", false)
	holdUnder(t, "/a.b", "/a", false)
	holdUnder(t, "/a-", "/a", false)
	holdUnder(t, "/a0000000001", "/a", false)
}

func TestUnderOfNoPath(t *testing.T) {
	for _, s := range []string{"", "a", "//", "/a/", "/a//b", "/.", "/a/..", "/a b", "/\xff", deep(api.MaxDepth + 1), "/" + long(api.MaxName+1)} {
		for _, other := range []string{"/", "/a", "/a/b", "", s, s + "/", s + "/a", "/a/", "/d"} {
			holdUnder(t, s, other, false)
			holdUnder(t, other, s, false)
		}
	}
}

func TestNumber(t *testing.T) {
	holdNumber(t, "/a", 0, "/a0000000000")
	holdNumber(t, "/a", 1, "/a0000000001")
	holdNumber(t, "/a", 9, "/a0000000009")
	holdNumber(t, "/a", 10, "/a0000000010")
	holdNumber(t, "/a/b", 1234567890, "/a/b1234567890")
	holdNumber(t, "/a", 987654321, "/a0987654321")
	holdNumber(t, "/a", math.MaxInt32, "/a2147483647")
	holdNumber(t, "/a", math.MaxInt32+1, "/a2147483648")
	holdNumber(t, "/a", math.MaxUint32, "/a4294967295")
	holdNumber(t, "/a", math.MaxUint32+1, "/a4294967296")
	holdNumber(t, "/a", greatest-1, "/a9999999998")
	holdNumber(t, "/a", greatest, "/a9999999999")
	holdNumber(t, "/...", 5, "/...0000000005")
	holdNumber(t, "/0", 5, "/00000000005")
	for power := 1; power <= greatest; power *= 10 {
		for _, n := range []int{power - 1, power, power + 1, 7 * power} {
			if n <= greatest {
				holdNumber(t, "/a/n-", n, fmt.Sprintf("/a/n-%010d", n))
			}
		}
	}
}

func TestNumberOfNoNumber(t *testing.T) {
	for _, path := range []string{"/a", "/a/n-", "/", "", "a"} {
		for _, n := range []int{-1, -2, -10, -greatest, math.MinInt32, math.MinInt, greatest + 1, greatest + 2, 10 * greatest, 1 << 34, 1 << 40, 1 << 62, math.MaxInt} {
			holdNumber(t, path, n, "")
		}
	}
}

func TestNumberOfNoPath(t *testing.T) {
	for _, path := range []string{"/", "", "a", "a/b", "//", "/a/", "/a//b", "/.", "/..", "/a/.", "/a/..", "/a b", "/\u00e9", "/\xff", deep(api.MaxDepth + 1), "/" + long(api.MaxName+1)} {
		for _, n := range []int{0, 1, greatest, -1, greatest + 1} {
			holdNumber(t, path, n, "")
		}
	}
}

func TestNumberAtTheLimits(t *testing.T) {
	for _, ahead := range []string{"/", "/a/", deep(api.MaxDepth-1) + "/"} {
		for _, n := range []int{0, 1, greatest} {
			tail := fmt.Sprintf("%010d", n)
			holdNumber(t, ahead+long(api.MaxName-10), n, ahead+long(api.MaxName-10)+tail)
			holdCut(t, ahead+long(api.MaxName-10)+tail, ahead+long(api.MaxName-10), n)
			for _, size := range []int{api.MaxName - 9, api.MaxName - 8, api.MaxName - 1, api.MaxName, api.MaxName + 1} {
				holdNumber(t, ahead+long(size), n, "")
			}
		}
	}
	holdNumber(t, "/"+long(api.MaxName)+"/a", 1, "/"+long(api.MaxName)+"/a0000000001") // its last name alone is longer
	holdNumber(t, deep(api.MaxDepth), 1, deep(api.MaxDepth)+"0000000001")
}

func TestCut(t *testing.T) {
	holdCut(t, "/a0000000000", "/a", 0)
	holdCut(t, "/a0000000001", "/a", 1)
	holdCut(t, "/a/b0000000010", "/a/b", 10)
	holdCut(t, "/a0123456789", "/a", 123456789)
	holdCut(t, "/a9876543210", "/a", 9876543210)
	holdCut(t, "/a9999999999", "/a", greatest)
	holdCut(t, "/a/b/c4294967296", "/a/b/c", 4294967296)
	holdCut(t, "/...0000000001", "/...", 1)
	holdCut(t, deep(api.MaxDepth)+"0000000001", deep(api.MaxDepth), 1)
}

// More than ten digits: the last ten are the number.
func TestCutOfMoreDigits(t *testing.T) {
	holdCut(t, "/00000000001", "/0", 1)
	holdCut(t, "/12345678901", "/1", 2345678901)
	holdCut(t, "/a12345678901", "/a1", 2345678901)
	holdCut(t, "/a/00000000010000000002", "/a/0000000001", 2)
	holdCut(t, "/n/-0000000001", "/n/-", 1)
	holdCut(t, "/n-1-0000000001", "/n-1-", 1)
}

func TestCutOfNoNumber(t *testing.T) {
	for _, s := range []string{
		"", "/", "/a", "a", "0", "000000000", "0000000001", "00000000011",
		"/a1", "/a000000001", "/000000001", "/a/b123456789", "/a-000000001",
		"/0000000001", "/a/0000000001", "/a/b/9999999999", // ten digits are the whole name
		"/a+000000001", "/a-00000001", "/a00000000-1", "/a000000000-", "/a 000000001", "/a000000001 ", "/a+0000000001 ",
		"/a000000000x", "/ax000000001", "/a00000x0001", "/a0000.00001", "/a0x00000001", "/a1_000_0000", "/a00000/00001", "/a0000000001/",
		"/a000000000/", "/a000000000:", "/a/00000000x", "/a00000000\x00", "/a0000000001\n",
		"a0000000001", "//0000000001", "/a//0000000001", "//a0000000001", "/.0000000001", "/..0000000001", "/a/.0000000001", "/a/..0000000001", "/a b0000000001",
		"/a\u0661\u0661\u0661\u0661\u0661", "/a0\uff11\uff11\uff11", "/a00000000\u0131", "/a0000000\u0e31",
	} {
		holdCut(t, s, "", 0)
	}
	for n := range 10 {
		holdCut(t, "/a"+strings.Repeat("1", n), "", 0)
		holdCut(t, strings.Repeat("1", n), "", 0)
	}
	holdCut(t, deep(api.MaxDepth+1)+"0000000001", "", 0)
	holdCut(t, "/"+long(api.MaxName+1)+"0000000001", "", 0)
}

// Each byte in each place of what should be ten digits.
func TestBytesOfNumbers(t *testing.T) {
	for at := range 10 {
		for k := range 256 {
			tail := []byte("1234567890")
			tail[at] = byte(k)
			n, e := strconv.Atoi(string(tail))
			if e == nil && k >= '0' && k <= '9' {
				holdCut(t, "/a"+string(tail), "/a", n)
			} else {
				holdCut(t, "/a"+string(tail), "", 0)
			}
		}
	}
}

// What Cut asks of is what is ahead: that the whole has a name that is too long is not among what it refuses.
func TestCutOfATooLongName(t *testing.T) {
	for size := api.MaxName - 9; size <= api.MaxName; size++ {
		path := "/a/" + long(size)
		holdCut(t, path+"0000000012", path, 12)
	}
}

// texts are paths and others: of a few pieces, in all orders, and longer ones of pieces that a seed tells.
func texts() []string {
	pieces := []string{"/", ".", "a", "0", "\u00e9"}
	all := []string{""}
	for from := 0; len(all[from]) < 7 && len(all) < 20000; from++ {
		for _, p := range pieces {
			all = append(all, all[from]+p)
		}
	}
	roll := dice(7)
	more := []string{"/", "/", "/", "/", "a", "b", "n-", "-", "_", ".", "..", "Z9", "0", "0000000007", "9999999999", "123456789", " ", "\xff", "\u0161", long(49), long(50), long(51), long(60), long(61)}
	for range 30000 {
		var b strings.Builder
		if roll(8) > 0 {
			b.WriteString("/")
		}
		for range roll(12) {
			if roll(3) > 0 {
				b.WriteString("/")
			}
			b.WriteString(more[roll(len(more))])
		}
		all = append(all, strings.ReplaceAll(b.String(), "//", "/"), b.String())
	}
	return all
}

// dice tells numbers below n, others for each seed, and the same ones at each run.
func dice(seed int) func(n int) int {
	state := uint64(seed)*2654435761 + 1
	return func(n int) int {
		state = state*6364136223846793005 + 1442695040888963407
		return int(state>>33) % n
	}
}

// model says by the chapter's words what a text is.
type model struct {
	form, number *regexp.Regexp
}

func newModel() model {
	return model{regexp.MustCompile(`\A(?:/|(?:/[a-zA-Z0-9._-]{1,60}){1,8})\z`), regexp.MustCompile(`\A(/[^\n]+?)([0-9]{10})\z`)}
}

// names are those of a path, and whether it is one.
func (m model) names(path string) ([]string, bool) {
	if !m.form.MatchString(path) {
		return nil, false
	}
	l := strings.FieldsFunc(path, func(c rune) bool { return c == '/' })
	if slices.Contains(l, ".") || slices.Contains(l, "..") {
		return nil, false
	}
	return l, true
}

// cut is what a text is cut into.
func (m model) cut(path string) (string, int) {
	parts := m.number.FindStringSubmatch(path)
	if parts == nil {
		return "", 0
	}
	if _, is := m.names(parts[1]); !is || parts[1] == "/" {
		return "", 0
	}
	n, _ := strconv.Atoi(parts[2])
	return parts[1], n
}

// numbered is a path with a number, nothing, if there is none.
func (m model) numbered(path string, n int) string {
	l, is := m.names(path)
	s := fmt.Sprintf("%s%010d", path, n)
	if !is || len(l) == 0 || n < 0 || n > greatest || !m.form.MatchString(s) {
		return ""
	}
	return s
}

func TestOfManyTexts(t *testing.T) {
	m := newModel()
	paths, none := 0, 0
	for _, s := range texts() {
		l, is := m.names(s)
		switch {
		case !is:
			none++
			holdNone(t, s)
		case len(l) == 0:
			holdPath(t, s, 0, "", "")
		default:
			paths++
			up := len(l) - 1
			holdPath(t, s, len(l), "/"+strings.Join(l[:up], "/"), l[up])
		}
		ahead, n := m.cut(s)
		holdCut(t, s, ahead, n)
		for _, n := range []int{0, 7, greatest, -1, greatest + 1} {
			holdNumber(t, s, n, m.numbered(s, n))
		}
		if t.Failed() {
			t.FailNow()
		}
	}
	if paths < 1000 || none < 1000 {
		t.Errorf("there are %d paths and %d others", paths, none)
	}
}

// Two texts each, many of which begin alike.
func TestOfManyPairs(t *testing.T) {
	m := newModel()
	all := texts()
	roll := dice(11)
	under, joined := 0, 0
	for range 200000 {
		s := all[roll(len(all))]
		other := all[roll(len(all))]
		if roll(2) == 0 {
			other = s[:roll(len(s)+1)]
		}
		l, is := m.names(s)
		tops, was := m.names(other)
		want := is && was && len(tops) <= len(l) && slices.Equal(l[:len(tops)], tops)
		holdUnder(t, s, other, want)
		if want {
			under++
		}

		path := strings.TrimSuffix(s, "/") + "/" + strings.TrimPrefix(other, "/")
		name := strings.TrimPrefix(other, "/")
		if _, sound := m.names(path); !is || !sound || name == "" || strings.Contains(name, "/") {
			path = ""
		} else {
			joined++
		}
		holdJoin(t, s, name, path)
		if t.Failed() {
			t.FailNow()
		}
	}
	if under < 1000 || joined < 1000 {
		t.Errorf("there are %d pairs of which one is under the other, and %d that can be joined", under, joined)
	}
}

func TestPartsOfWhatWasJoined(t *testing.T) {
	joined := 0
	for _, s := range texts() {
		for _, name := range []string{"a", "n-0000000001", "...", long(api.MaxName)} {
			path, is := zname.Join(s, name)
			if !is {
				continue
			}
			joined++
			parent, has := zname.Parent(path)
			if parent != s || !has || zname.Base(path) != name || zname.Depth(path) != zname.Depth(s)+1 {
				t.Fatalf("P7.4: of Join(%s, %s): Parent is %s, %v, Base %s", show(s), show(name), show(parent), has, show(zname.Base(path)))
			}
		}
	}
	if joined < 1000 {
		t.Errorf("P7.4: %d were joined", joined)
	}
}

func TestPartsOfWhatWasNumbered(t *testing.T) {
	numbered := 0
	for _, s := range texts() {
		for _, n := range []int{0, 1, 42, 1234567890, math.MaxUint32 + 1, greatest} {
			path, is := zname.Number(s, n)
			if !is {
				continue
			}
			numbered++
			ahead, number, has := zname.Cut(path)
			if ahead != s || number != n || !has {
				t.Fatalf("P7.4: of Number(%s, %d): Cut is %s, %d, %v", show(s), n, show(ahead), number, has)
			}
			parent, _ := zname.Parent(s)
			if up, _ := zname.Parent(path); !zname.Valid(path) || up != parent {
				t.Fatalf("P7.4: Number(%s, %d) is %s, under %s", show(s), n, show(path), show(up))
			}
		}
	}
	if numbered < 1000 {
		t.Errorf("P7.4: %d were numbered", numbered)
	}
}

func TestAPathIsUnderItsParent(t *testing.T) {
	up := 0
	for _, s := range texts() {
		for path, is := zname.Parent(s); is; path, is = zname.Parent(path) {
			up++
			if !zname.Under(s, path) || zname.Under(path, s) {
				t.Fatalf("P7.4: Under(%s, %s) is %v, the other way round %v", show(s), show(path), zname.Under(s, path), zname.Under(path, s))
			}
		}
	}
	if up < 1000 {
		t.Errorf("P7.4: %d had a Parent", up)
	}
}

// shares tells whether two texts have memory in common.
func shares(a, b string) bool {
	if a == "" || b == "" {
		return false
	}
	from, other := uintptr(unsafe.Pointer(unsafe.StringData(a))), uintptr(unsafe.Pointer(unsafe.StringData(b)))
	return from < other+uintptr(len(b)) && other < from+uintptr(len(a))
}

func TestWhatIsToldIsNew(t *testing.T) {
	for _, path := range []string{"/a", "/a/b", "/a/n-0000000007", "/" + long(50), deep(api.MaxDepth)} {
		given := strings.Clone(path)
		parent, _ := zname.Parent(given)
		joined, _ := zname.Join("/", zname.Base(given))
		under, _ := zname.Join(given, "a")
		numbered, _ := zname.Number(given, 7)
		ahead, _, _ := zname.Cut(given)
		for _, told := range []string{parent, zname.Base(given), joined, under, numbered, ahead} {
			if shares(told, given) {
				t.Errorf("R6: %s has memory of %s", show(told), show(given))
			}
		}
		if given != path {
			t.Errorf("R5: what was given is %s, not %s", show(given), show(path))
		}
	}
}

// What was told stays as it was, whatever becomes of the bytes of which the path was made.
func TestWhatIsToldStays(t *testing.T) {
	given := []byte("/ab/n-0000000007")
	path := unsafe.String(unsafe.SliceData(given), len(given))
	parent, _ := zname.Parent(path)
	base := zname.Base(path)
	ahead, n, _ := zname.Cut(path)
	numbered, _ := zname.Number(path, 8)
	if string(given) != "/ab/n-0000000007" {
		t.Errorf("R5: what was given is %s", show(string(given)))
	}
	clear(given)
	if parent != "/ab" || base != "n-0000000007" || ahead != "/ab/n-" || n != 7 || numbered != "/ab/n-00000000070000000008" {
		t.Errorf("R6: what was told became %s, %s, %s, %d, %s", show(parent), show(base), show(ahead), n, show(numbered))
	}
}

// told is all that is told of a text.
func told(s string) string {
	parent, has := zname.Parent(s)
	joined, is := zname.Join(s, "a")
	numbered, fits := zname.Number(s, 7)
	ahead, n, was := zname.Cut(s)
	return fmt.Sprintf("%v %d %q %q %v %q %v %q %v %q %d %v %v %v", zname.Valid(s), zname.Depth(s), zname.Base(s), parent, has, joined, is, numbered, fits, ahead, n, was, zname.Under(s, "/a"), zname.Under("/a", s))
}

func TestTheSameCallsTellTheSame(t *testing.T) {
	all := texts()
	var first []string
	for _, s := range all {
		first = append(first, told(s))
	}
	for k := len(all) - 1; k >= 0; k-- {
		if again := told(all[k]); again != first[k] {
			t.Fatalf("R7: of %s: %s, and then %s", show(all[k]), first[k], again)
		}
	}
}
