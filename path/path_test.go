package path_test

import (
	"cmp"
	"math/rand"
	"slices"
	"strings"
	"testing"
	"unicode/utf8"

	"pannier/api"
	"pannier/path"
)

func checkSound(t *testing.T, s string, want api.Errno) {
	t.Helper()
	if e := path.Sound(s); e != want {
		t.Errorf("Sound of %.60q: %v, not %v", s, e, want)
	}
}

func checkClean(t *testing.T, s string, want ...string) {
	t.Helper()
	if parts, e := path.Clean(s); !slices.Equal(parts, want) || e != api.OK {
		t.Errorf("Clean of %.60q: %.60q %v, not %.60q", s, parts, e, want)
	}
}

func refuseClean(t *testing.T, s string, want api.Errno) {
	t.Helper()
	if parts, e := path.Clean(s); len(parts) != 0 || e != want {
		t.Errorf("Clean of %.60q: %.60q %v, not %v", s, parts, e, want)
	}
}

func letters(n int) string { return strings.Repeat("a", n) }

// texts are all texts of at most n of these letters.
func texts(letters []string, n int) []string {
	all := []string{""}
	last := all
	for range n {
		var next []string
		for _, s := range last {
			for _, x := range letters {
				next = append(next, s+x)
			}
		}
		all = append(all, next...)
		last = next
	}
	return all
}

// someText is up to n letters, one behind the other.
func someText(r *rand.Rand, n int, letters ...string) string {
	var b strings.Builder
	for range r.Intn(n + 1) {
		b.WriteString(letters[r.Intn(len(letters))])
	}
	return b.String()
}

// cleanPaths are clean paths with their parts, told without the package: up to two levels of these parts.
func cleanPaths() map[string][]string {
	names := texts([]string{"a", "b", "-", "~"}, 2)[1:]
	names = append(names, "...", ".a", "..a", "a..", "\x01", "a\x01", " ", "a ", "é", "aé", "\uFFFD", "\U0010FFFF", "\x7f", "0", "A", "a0")
	all := map[string][]string{"": nil}
	for _, x := range names {
		all[x] = []string{x}
		for _, y := range names {
			all[x+"/"+y] = []string{x, y}
		}
	}
	all["a/b/a"], all["a/b/b"], all["a/b/a/-"] = []string{"a", "b", "a"}, []string{"a", "b", "b"}, []string{"a", "b", "a", "-"}
	return all
}

// orderedPaths: cleanPaths, in some order that is always the same.
func orderedPaths() []string {
	var all []string
	for s := range cleanPaths() {
		all = append(all, s)
	}
	slices.Sort(all)
	return all
}

func TestLimits(t *testing.T) {
	if path.MaxPart != 255 || path.MaxPath != 4000 {
		t.Errorf("%d %d", path.MaxPart, path.MaxPath)
	}
}

// P10.1: what may be looked at, dots and slashes too.
func TestSound(t *testing.T) {
	for _, s := range []string{
		"a", ".", "..", "../..", "a/../b", "a/", "a//b", "./a//b/", "a\nb", "\x01", "\x7f", " ", "\\", "C:\\a", "-", "~",
		"é", "ключ/值", "\uFFFD", "a\uFFFDb", "\uFFFD\uFFFD", "\U0010FFFF", "\u0080", "\u07ff", "\u0800", "\ud7ff", "\ue000", "\uffff", "\U00010000",
		letters(256), letters(4000), strings.Repeat("a/", 2000), strings.Repeat("é", 2000), "a" + strings.Repeat("/", 3999),
	} {
		checkSound(t, s, api.OK)
	}
}

// P10.1: each error by itself.
func TestSoundRefuses(t *testing.T) {
	checkSound(t, "", api.ErrEmpty)
	for _, s := range []string{letters(4001), letters(4002), letters(100000), strings.Repeat("é", 2000) + "a", strings.Repeat("a/", 2001), "a" + strings.Repeat("/", 4000)} {
		checkSound(t, s, api.ErrLong)
	}
	for _, s := range []string{"\x00", "a\x00", "\x00a", "a\x00b", "a/\x00", "a\x00/b", "\x00\x00", letters(3999) + "\x00"} {
		checkSound(t, s, api.ErrNul)
	}
	for _, s := range []string{
		"\xff", "\x80", "a\xff", "\xffa", "a/\xfe/b", "é\xe9", letters(3999) + "\xff",
		"\xc3", "\xe2\x82", "\xf0\x9f\x98", "a\xc3/b", "\xef", "\xef\xbf", "\xef\xbf/\xbd", "\xef\xbfa", "\uFFFD\xff", "\xff\uFFFD", "\xef\xbf\uFFFD", "\uFFFD\xbd",
		"\xc0\x80", "\xc1\xbf", "\xe0\x80\x80", "\xe0\x9f\xbf", "\xf0\x80\x80\x80", "\xf0\x8f\xbf\xbf", "\xc0\xae\xc0\xae", "\xc0\xaf",
		"\xed\xa0\x80", "\xed\xbf\xbf", "\xf4\x90\x80\x80", "\xf5\x80\x80\x80", "\xf8\x88\x80\x80\x80",
	} {
		checkSound(t, s, api.ErrText)
	}
	for _, s := range []string{"/", "//", "/a", "//a", "/a/b", "/.", "/..", "/" + letters(3999)} {
		checkSound(t, s, api.ErrAbsolute)
	}
}

// P10.1: of several errors the one that is named first.
func TestSoundOrder(t *testing.T) {
	checkSound(t, "/"+letters(4000), api.ErrLong)
	checkSound(t, "\x00"+letters(4000), api.ErrLong)
	checkSound(t, "\xff"+letters(4000), api.ErrLong)
	checkSound(t, "/\x00\xff"+letters(4000), api.ErrLong)
	checkSound(t, letters(4000)+"\x00", api.ErrLong)
	for _, s := range []string{"\x00\xff", "\xff\x00", "\xc3\x00", "\xe2\x82\x00", "\xff" + letters(3000) + "\x00", "/\x00", "/\xff\x00", "/\x00\xff"} {
		checkSound(t, s, api.ErrNul)
	}
	for _, s := range []string{"/\xff", "/a/\x80", "//\xc0\x80"} {
		checkSound(t, s, api.ErrText)
	}
}

// soundModel tells Sound's answer one condition behind the other, with the library's own look at UTF-8.
func soundModel(s string) api.Errno {
	for _, x := range []struct {
		wrong bool
		e     api.Errno
	}{
		{len(s) == 0, api.ErrEmpty},
		{len(s) > 4000, api.ErrLong},
		{strings.Contains(s, "\x00"), api.ErrNul},
		{!utf8.ValidString(s), api.ErrText},
		{len(s) > 0 && s[0] == '/', api.ErrAbsolute},
	} {
		if x.wrong {
			return x.e
		}
	}
	return api.OK
}

// P10.1: every text of one byte and of two, and of more of those bytes at which UTF-8 has its edges.
func TestSoundBytes(t *testing.T) {
	for n := range 256 {
		checkSound(t, string([]byte{byte(n)}), soundModel(string([]byte{byte(n)})))
		for m := range 256 {
			s := string([]byte{byte(n), byte(m)})
			checkSound(t, s, soundModel(s))
		}
	}
	r := rand.New(rand.NewSource(10))
	edges := strings.Split("\x00 / a \x7f \x80 \x8f \x90 \x9f \xa0 \xbd \xbf \xc0 \xc1 \xc2 \xdf \xe0 \xe1 \xec \xed \xee \xef \xf0 \xf1 \xf3 \xf4 \xf5 \xff \uFFFD é", " ")
	for range 200000 {
		s := someText(r, 6, edges...)
		checkSound(t, s, soundModel(s))
	}
}

// P10.1: parts between slashes, empty ones and dots left out.
func TestClean(t *testing.T) {
	checkClean(t, "a", "a")
	checkClean(t, "./a//b/", "a", "b")
	checkClean(t, "a/b/c", "a", "b", "c")
	checkClean(t, "b/a/b", "b", "a", "b")
	checkClean(t, "a////b", "a", "b")
	checkClean(t, "a/./././b/.", "a", "b")
	checkClean(t, "a/.b/c./d.e", "a", ".b", "c.", "d.e")
	checkClean(t, ".../..a/a../.. /....", "...", "..a", "a..", ".. ", "....")
	checkClean(t, "a\\..\\b/C:/~/ /-", "a\\..\\b", "C:", "~", " ", "-")
	checkClean(t, "é/\uFFFD/a\nb", "é", "\uFFFD", "a\nb")
	checkClean(t, "%2e%2e/．．/․․", "%2e%2e", "．．", "․․")
}

// P10.1: without parts it is the root.
func TestCleanRoot(t *testing.T) {
	for _, s := range []string{".", "./", ".//", "./.", "././/./", "." + strings.Repeat("/", 3999), strings.Repeat("./", 2000)} {
		checkClean(t, s)
	}
}

// P10.1: the edges of how long a part and a path are, in bytes.
func TestCleanEdges(t *testing.T) {
	checkClean(t, letters(255), letters(255))
	checkClean(t, "./"+letters(255)+"//"+letters(255)+"/", letters(255), letters(255))
	refuseClean(t, letters(256), api.ErrLong)
	refuseClean(t, "a/"+letters(256), api.ErrLong)
	refuseClean(t, letters(256)+"/a", api.ErrLong)
	refuseClean(t, "a/b/"+letters(300)+"/c", api.ErrLong)
	refuseClean(t, "..."+strings.Repeat(".", 253), api.ErrLong)
	accents := strings.Repeat("é", 127)
	checkClean(t, accents+"a", accents+"a")
	refuseClean(t, accents+"é", api.ErrLong)
	refuseClean(t, strings.Repeat("值", 86), api.ErrLong)
	checkClean(t, strings.Repeat("值", 85), strings.Repeat("值", 85))

	checkClean(t, strings.Repeat("a/", 2000), slices.Repeat([]string{"a"}, 2000)...)
	refuseClean(t, strings.Repeat("a/", 2000)+".", api.ErrLong)
	checkClean(t, strings.Repeat("./", 1999)+"ab", "ab")
	refuseClean(t, strings.Repeat("./", 2000)+"a", api.ErrLong)
	refuseClean(t, strings.Repeat("./", 2001), api.ErrLong)
}

// P10.1: Sound's error ahead of all that the parts say.
func TestCleanSound(t *testing.T) {
	refuseClean(t, "", api.ErrEmpty)
	refuseClean(t, letters(4001), api.ErrLong)
	refuseClean(t, "../"+letters(4000), api.ErrLong)
	refuseClean(t, "../"+letters(256)+"/\x00", api.ErrNul)
	refuseClean(t, "../\xff/"+letters(256), api.ErrText)
	for _, s := range []string{"/", "/a", "/.", "/..", "//a", "/" + letters(256)} {
		refuseClean(t, s, api.ErrAbsolute)
	}
}

// P10.1: dots that lead up are refused wherever they stand, inside too; of two wrong parts the first one tells.
func TestCleanDots(t *testing.T) {
	for _, s := range []string{"..", "../", "./..", "../a", "a/..", "a/../", "a/../b", "a/b/../c", "a//..", "a/./..", "../..", ".../.."} {
		refuseClean(t, s, api.ErrDots)
	}
	refuseClean(t, "../"+letters(256), api.ErrDots)
	refuseClean(t, "a/../"+letters(256)+"/..", api.ErrDots)
	refuseClean(t, letters(256)+"/..", api.ErrLong)
	refuseClean(t, "a/"+letters(256)+"/../b", api.ErrLong)
}

// cleanModel tells Clean's answer byte by byte.
func cleanModel(s string) ([]string, api.Errno) {
	if e := soundModel(s); e != api.OK {
		return nil, e
	}
	var parts []string
	part := ""
	for _, b := range []byte(s + "/") {
		switch {
		case b != '/':
			part += string([]byte{b})
			continue
		case part == "..":
			return nil, api.ErrDots
		case len(part) > 255:
			return nil, api.ErrLong
		case part != "" && part != ".":
			parts = append(parts, part)
		}
		part = ""
	}
	return parts, api.OK
}

func checkAsModel(t *testing.T, s string) {
	t.Helper()
	if want, e := cleanModel(s); e == api.OK {
		checkClean(t, s, want...)
	} else {
		refuseClean(t, s, e)
	}
}

// P10.1: all short texts, and some long ones.
func TestCleanModel(t *testing.T) {
	for _, s := range texts([]string{"a", ".", "/", "-"}, 7) {
		checkAsModel(t, s)
	}
	r := rand.New(rand.NewSource(11))
	for range 20000 {
		checkAsModel(t, someText(r, 12, "a", ".", "..", "...", "/", "//", "é", letters(127), letters(128), letters(255), letters(256), "\x00", "\xff"))
	}
}

// P10.2: parts with slashes between them, and back.
func TestJoin(t *testing.T) {
	for _, x := range []struct {
		want  string
		parts []string
	}{
		{"", nil},
		{"", []string{}},
		{"a", []string{"a"}},
		{"a/b", []string{"a", "b"}},
		{"a/b/a", []string{"a", "b", "a"}},
		{".../..a", []string{"...", "..a"}},
		{letters(255) + "/é", []string{letters(255), "é"}},
	} {
		if s := path.Join(x.parts...); s != x.want {
			t.Errorf("Join of %q: %q", x.parts, s)
		}
		if parts := path.Parts(x.want); !slices.Equal(parts, x.parts) {
			t.Errorf("Parts of %q: %q", x.want, parts)
		}
	}
	if path.Join() != "" || path.Join("a", "b", "c") != "a/b/c" {
		t.Error("Join of parts one by one")
	}
}

// P10.2: of the root there are no parts, not an empty one.
func TestPartsRoot(t *testing.T) {
	if parts := path.Parts(""); len(parts) != 0 {
		t.Errorf("%q", parts)
	}
}

// P10.2: a clean path is its own Clean, and its parts are those that Clean answers.
func TestCleanTwice(t *testing.T) {
	for s, parts := range cleanPaths() {
		if got := path.Parts(s); !slices.Equal(got, parts) {
			t.Errorf("Parts of %q: %q", s, got)
		}
		if got := path.Join(parts...); got != s {
			t.Errorf("Join of %q: %q", parts, got)
		}
		if s != "" {
			checkClean(t, s, parts...)
			checkClean(t, "./"+strings.ReplaceAll(s, "/", "/.//")+"/", parts...)
		}
	}
	long := strings.Repeat("a/", 1999) + "aa"
	if got := path.Parts(long); len(got) != 2000 || path.Join(got...) != long {
		t.Errorf("a path of 4000 bytes: %d parts", len(got))
	}
}

// P10.3: paths in their order. A slash counts below all that a part may have, a byte above 127 above all that are below it.
func TestCompare(t *testing.T) {
	inOrder := []string{
		"", "\x01", " ", "-", "0", "A", "a", "a/\x01", "a/-", "a/-/b", "a/a", "a/a/a", "a/a/b", "a/a-", "a/aa", "a/b", "a/\x7f", "a/é",
		"a\x01", "a\x01/z", "a ", "a-", "a-/a", "a-a", "a-b", "a.", "a0", "aa", "aa/a", "ab", "a\x7f", "aé", "b", "b/a", "ba", "é", "é/a", "éa", "\uFFFD", "\U0010FFFF",
	}
	for i, a := range inOrder {
		for j, b := range inOrder {
			if got := path.Compare(a, b); cmp.Compare(got, 0) != cmp.Compare(i, j) {
				t.Errorf("Compare of %q and %q: %d", a, b, got)
			}
		}
	}
}

// P10.3: all pairs, held against their parts.
func TestCompareParts(t *testing.T) {
	parts := cleanPaths()
	all := orderedPaths()
	for _, a := range all {
		for _, b := range all {
			want := slices.Compare(parts[a], parts[b])
			if got := path.Compare(a, b); cmp.Compare(got, 0) != want {
				t.Fatalf("Compare of %q and %q: %d, not %d", a, b, got, want)
			}
		}
	}
}

// P10.3: in that order what lies in a directory stands behind it, with nothing else between.
func TestCompareTogether(t *testing.T) {
	all := orderedPaths()
	slices.SortFunc(all, path.Compare)
	for i, dir := range all {
		n := i
		for n < len(all) && path.Under(dir, all[n]) {
			n++
		}
		for _, s := range append(slices.Clone(all[:i]), all[n:]...) {
			if path.Under(dir, s) {
				t.Fatalf("%q lies in %q, apart from the others", s, dir)
			}
		}
	}
}

// P10.4: what lies in a directory: parts tell, not letters.
func TestUnder(t *testing.T) {
	for _, x := range [][2]string{{"", ""}, {"", "a"}, {"", "a/b"}, {"a", "a"}, {"a", "a/b"}, {"a", "a/b/c"}, {"a/b", "a/b"}, {"a/b", "a/b/c"}, {"é", "é/a"}, {letters(255), letters(255) + "/b"}} {
		if !path.Under(x[0], x[1]) {
			t.Errorf("%q isn't under %q", x[1], x[0])
		}
	}
	for _, x := range [][2]string{{"a", ""}, {"a", "b"}, {"a", "ab"}, {"a", "a-"}, {"a", "a-/b"}, {"ab", "a"}, {"a/b", "a"}, {"a/b", "a/bc"}, {"a/b", "a/bc/d"}, {"a/b", "a/c"}, {"b", "a/b"}, {"a/b", "b"}, {"a/b", "ab"}, {"a", "A"}, {"a", "A/b"}} {
		if path.Under(x[0], x[1]) {
			t.Errorf("%q is under %q", x[1], x[0])
		}
	}
}

// P10.4: all pairs, held against their parts.
func TestUnderParts(t *testing.T) {
	parts := cleanPaths()
	all := orderedPaths()
	for _, dir := range all {
		for _, s := range all {
			d, p := parts[dir], parts[s]
			want := len(d) <= len(p) && slices.Equal(d, p[:min(len(d), len(p))])
			if got := path.Under(dir, s); got != want {
				t.Fatalf("Under of %q and %q: %v", dir, s, got)
			}
		}
	}
}

// P10.4: the directory in which something lies; none of the root.
func TestUp(t *testing.T) {
	for s, want := range map[string]string{"a": "", "abc": "", "a/b": "a", "a/b/c": "a/b", "ab/c": "ab", "a/bc": "a", ".../...": "...", "é/é": "é", letters(255): ""} {
		if up, ok := path.Up(s); up != want || !ok {
			t.Errorf("Up of %q: %q %v", s, up, ok)
		}
	}
	if up, ok := path.Up(""); up != "" || ok {
		t.Errorf("Up of the root: %q %v", up, ok)
	}
	for s, parts := range cleanPaths() {
		if up, ok := path.Up(s); s != "" && (!ok || !slices.Equal(path.Parts(up), parts[:len(parts)-1])) {
			t.Errorf("Up of %q: %q %v", s, up, ok)
		}
	}
}

// callAll: every call is answered (P1), and by the same however often it is asked.
func callAll(t *testing.T, a, b string) {
	checkSound(t, a, soundModel(a))
	checkAsModel(t, a)
	if !slices.Equal(path.Parts(a), path.Parts(a)) || path.Join(a, b) != path.Join(a, b) || path.Compare(a, b) != path.Compare(a, b) || path.Under(a, b) != path.Under(a, b) {
		t.Errorf("%q and %q are answered otherwise the second time", a, b)
	}
	up, ok := path.Up(a)
	if again, okAgain := path.Up(a); up != again || ok != okAgain {
		t.Errorf("%q is answered otherwise the second time", a)
	}
}

// P1: paths that aren't clean, and any bytes.
func TestAnything(t *testing.T) {
	rough := append(texts([]string{"a", ".", "/", "\x00", "\xff"}, 3), letters(100000), strings.Repeat("/", 100000))
	for _, a := range rough {
		for _, b := range rough {
			callAll(t, a, b)
		}
	}
}

// P1: any bytes at all.
func FuzzAnything(f *testing.F) {
	f.Add("./a//b/", "a/../b")
	f.Add("\uFFFD\xef\xbf", "/\x00")
	f.Fuzz(callAll)
}

// P2: parts that are handed in stay as they are, with their spare room; lists that are answered have memory of their own.
func TestOwnMemory(t *testing.T) {
	room := []string{"a", "b", "c", "d"}
	if s := path.Join(room[:2]...); s != "a/b" || !slices.Equal(room, []string{"a", "b", "c", "d"}) {
		t.Errorf("Join: %q, and %q is left", s, room)
	}
	for name, call := range map[string]func() []string{
		"Clean": func() []string { l, _ := path.Clean("./a//b/c"); return l },
		"Parts": func() []string { return path.Parts("a/b/c") },
	} {
		first, second := call(), call()
		clear(first[:cap(first)])
		if want := []string{"a", "b", "c"}; !slices.Equal(second, want) || !slices.Equal(call(), want) {
			t.Errorf("answers of %s share memory: %q", name, second)
		}
	}
}
