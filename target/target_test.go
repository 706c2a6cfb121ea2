package target_test

import (
	"math/rand"
	"path/filepath"
	"slices"
	"strings"
	"testing"
	"unicode/utf8"

	"pannier/api"
	"pannier/path"
	"pannier/target"
)

func check(t *testing.T, dir, to, want string) {
	t.Helper()
	if s, e := target.Resolve(dir, to); s != want || e != api.OK {
		t.Errorf("Resolve of %.60q in %.60q: %.60q %v, not %.60q", to, dir, s, e, want)
	}
}

func refuse(t *testing.T, dir, to string, want api.Errno) {
	t.Helper()
	if s, e := target.Resolve(dir, to); s != "" || e != want {
		t.Errorf("Resolve of %.60q in %.60q: %.60q %v, not %v", to, dir, s, e, want)
	}
}

func checkRelative(t *testing.T, dir, to, want string) {
	t.Helper()
	if s := target.Relative(dir, to); s != want {
		t.Errorf("Relative of %.60q to %.60q: %.60q, not %.60q", dir, to, s, want)
	}
}

func letters(n int) string { return strings.Repeat("a", n) }

// dirs are clean paths, the root among them.
func dirs() []string {
	list := []string{""}
	for _, s := range []string{"a", "b", "ab", "a-", "..."} {
		list = append(list, s)
		for _, x := range []string{"a", "b", "ab", "..a", "é"} {
			list = append(list, s+"/"+x, s+"/"+x+"/a", s+"/"+x+"/b/a")
		}
	}
	return list
}

// names are all texts of at most n of these.
func names(n int, letters ...string) []string {
	all := []string{""}
	last := all
	for range n {
		var next []string
		for _, s := range last {
			for _, x := range letters {
				next = append(next, s+x)
			}
		}
		all = append(all, next...)
		last = next
	}
	return all
}

// P11.1: steps down, up, and none.
func TestResolve(t *testing.T) {
	check(t, "a/b", "../c", "a/c")
	check(t, "", "a", "a")
	check(t, "", "a/b", "a/b")
	check(t, "a", "b", "a/b")
	check(t, "a/b", "c/d", "a/b/c/d")
	check(t, "a/b", "..", "a")
	check(t, "a/b", "../..", "")
	check(t, "a/b", "../../", "")
	check(t, "a/b", "../../c/d", "c/d")
	check(t, "a/b", "../b", "a/b")
	check(t, "a/b", "c/../../d", "a/d")
	check(t, "", "a/..", "")
	check(t, "", "a/../b/../c", "c")
	check(t, "a", "a", "a/a")
}

// P11.1: empty parts and dots are no steps; three dots, and dots with letters, are names.
func TestResolveDots(t *testing.T) {
	for _, to := range []string{".", "./", "./.", ".//.", "././"} {
		check(t, "", to, "")
		check(t, "a/b", to, "a/b")
	}
	check(t, "a", ".//b/./c//", "a/b/c")
	check(t, "a", "..//./b/", "b")
	check(t, "a/b", ".././../c", "c")
	check(t, "a", ".../..a/a../.b/b.", "a/.../..a/a../.b/b.")
	check(t, "a", ".../..", "a")
	check(t, "...", "..", "")
	check(t, "a", " ../.. /..\\b", "a/ ../.. /..\\b")
	check(t, "a", "%2e%2e/．．", "a/%2e%2e/．．")
}

// P11.1: above the root nothing is, at no step, though later ones would lead back.
func TestResolveEscape(t *testing.T) {
	for _, to := range []string{"..", "../", "./..", "../a", "../a/b", "a/../..", "a/../../a", "a/b/../../../c", ".//.."} {
		refuse(t, "", to, api.ErrEscape)
	}
	refuse(t, "a", "../../c", api.ErrEscape)
	refuse(t, "a", "../../a", api.ErrEscape)
	refuse(t, "a", "../..", api.ErrEscape)
	refuse(t, "a/b", "../../..", api.ErrEscape)
	refuse(t, "a/b", "../../../a/b", api.ErrEscape)
	refuse(t, "a/b", "c/../../../../d", api.ErrEscape)
	refuse(t, "a/b", "../c/../../../a", api.ErrEscape)
	deep := strings.TrimSuffix(strings.Repeat("a/", 1000), "/")
	check(t, deep, strings.Repeat("../", 1000), "")
	check(t, deep, strings.Repeat("../", 1000)+"b", "b")
	refuse(t, deep, strings.Repeat("../", 1001), api.ErrEscape)
}

// P11.1: Sound's errors, but ErrEscape of what begins with a slash, inside or not.
func TestResolveSound(t *testing.T) {
	for _, dir := range []string{"", "a", "a/b"} {
		refuse(t, dir, "", api.ErrEmpty)
		refuse(t, dir, letters(4001), api.ErrLong)
		refuse(t, dir, strings.Repeat("./", 2001), api.ErrLong)
		refuse(t, dir, "../../../../"+letters(4000), api.ErrLong)
		refuse(t, dir, "/"+letters(4000), api.ErrLong)
		for _, to := range []string{"\x00", "a\x00", "/\x00", "\xff\x00", "../../../\x00", letters(256) + "/\x00"} {
			refuse(t, dir, to, api.ErrNul)
		}
		for _, to := range []string{"\xff", "a\xc3", "/\xff", "\xc0\xae\xc0\xae", "../../../\xff", letters(256) + "/\xff"} {
			refuse(t, dir, to, api.ErrText)
		}
		for _, to := range []string{"/", "//", "/a", "/a/b", "/.", "/..", "/" + letters(256)} {
			refuse(t, dir, to, api.ErrEscape)
		}
	}
}

// P11.1: how long a name and a part of it may be, in bytes; of two wrong steps the first one tells.
func TestResolveLong(t *testing.T) {
	check(t, "a", letters(255), "a/"+letters(255))
	check(t, "a", "../"+letters(255)+"/b", letters(255)+"/b")
	check(t, "", strings.Repeat("é", 127), strings.Repeat("é", 127))
	for _, to := range []string{letters(256), "b/" + letters(256), letters(256) + "/..", "../" + letters(256) + "/b", strings.Repeat("é", 128), strings.Repeat(".", 256)} {
		refuse(t, "a", to, api.ErrLong)
	}
	refuse(t, "a", letters(256)+"/../../..", api.ErrLong)
	refuse(t, "a", "../../"+letters(256), api.ErrEscape)
	refuse(t, "", "../"+letters(256), api.ErrEscape)
	check(t, "a", strings.Repeat("./", 1999)+"bc", "a/bc")
	check(t, "a", strings.Repeat("b/", 2000), "a"+strings.Repeat("/b", 2000))
}

// P11.1: the path at the end may have more bytes than a name may have.
func TestResolveLongEnd(t *testing.T) {
	dir := strings.TrimSuffix(strings.Repeat("d/", 2000), "/")
	check(t, dir, "e", dir+"/e")
	check(t, dir, strings.Repeat("e/", 2000), dir+strings.Repeat("/e", 2000))
}

// P11.1: no step is lost by those that were gone ahead of it, however many parts the directory and the name have.
func TestResolveApart(t *testing.T) {
	for n := range 40 {
		dir := strings.TrimSuffix(strings.Repeat("d/", n), "/")
		for m := range 40 {
			want := dir
			var to []string
			for i := range m {
				part := string(rune('a' + i%26))
				to = append(to, part)
				want = strings.TrimPrefix(want+"/"+part, "/")
			}
			if m > 0 {
				check(t, dir, strings.Join(to, "/"), want)
				check(t, dir, "x/../"+strings.Join(to, "/"), want)
			}
		}
	}
}

// model tells Resolve's answer as a recursion over what is left of to.
func model(dir, to string) (string, api.Errno) {
	switch {
	case to == "":
		return "", api.ErrEmpty
	case len(to) > 4000:
		return "", api.ErrLong
	case strings.Contains(to, "\x00"):
		return "", api.ErrNul
	case !utf8.ValidString(to):
		return "", api.ErrText
	case to[0] == '/':
		return "", api.ErrEscape
	}
	return modelSteps(dir, to)
}

func modelSteps(dir, to string) (string, api.Errno) {
	if to == "" {
		return dir, api.OK
	}
	part, rest, _ := strings.Cut(to, "/")
	switch {
	case part == "" || part == ".":
		return modelSteps(dir, rest)
	case part == ".." && dir == "":
		return "", api.ErrEscape
	case part == "..":
		return modelSteps(dir[:max(0, strings.LastIndex(dir, "/"))], rest)
	case len(part) > 255:
		return "", api.ErrLong
	case dir == "":
		return modelSteps(part, rest)
	}
	return modelSteps(dir+"/"+part, rest)
}

func checkModel(t *testing.T, dir, to string) {
	t.Helper()
	if want, e := model(dir, to); e == api.OK {
		check(t, dir, to, want)
	} else {
		refuse(t, dir, to, e)
	}
}

// P11.1: all short names in some directories, and some long ones.
func TestResolveModel(t *testing.T) {
	for _, dir := range []string{"", "a", "a/b", "a/b/c"} {
		for _, to := range names(6, "a", ".", "/", "..", "../") {
			checkModel(t, dir, to)
		}
	}
	r := rand.New(rand.NewSource(11))
	steps := []string{"a", "b", ".", "..", "..", "/", "/", "/", "../", "a/", "é", letters(255), letters(256), "\x00", "\xff"}
	for range 50000 {
		to := ""
		for range r.Intn(14) {
			to += steps[r.Intn(len(steps))]
		}
		checkModel(t, dirs()[r.Intn(len(dirs()))], to)
	}
}

// P11.1: what Clean takes leads down from the root to its own parts, and in a directory behind that one's.
func TestResolveClean(t *testing.T) {
	for _, to := range names(6, "a", ".", "/", "b") {
		parts, e := path.Clean(to)
		if e != api.OK {
			continue
		}
		for _, dir := range dirs() {
			check(t, dir, to, path.Join(slices.Concat(path.Parts(dir), parts)...))
		}
	}
}

// P11.2: up and down.
func TestRelative(t *testing.T) {
	for _, x := range [][3]string{
		{"", "a", "a"}, {"", "a/b", "a/b"}, {"a", "a/b", "b"}, {"a", "a/b/c", "b/c"},
		{"a", "", ".."}, {"a/b", "", "../.."}, {"a/b", "a", ".."}, {"a/b/c", "a", "../.."},
		{"a", "b", "../b"}, {"a/b", "a/c", "../c"}, {"a/b", "c", "../../c"}, {"a/b", "c/d", "../../c/d"}, {"a", "b/c", "../b/c"}, {"a/b/c", "a/d/e", "../../d/e"},
		{"a/b", "b", "../../b"}, {"a/b", "b/a", "../../b/a"}, {"a/x/b", "c/x/b", "../../../c/x/b"}, {"a/b", "c/b", "../../c/b"},
		{"a", "ab", "../ab"}, {"ab", "a", "../a"}, {"a/b", "a/bc", "../bc"}, {"a/bc", "a/b", "../b"}, {"a-", "a/b", "../a/b"}, {"a", "A", "../A"},
		{"...", ".../a", "a"}, {"...", "..a", "../..a"}, {"é", "é/é", "é"},
	} {
		checkRelative(t, x[0], x[1], x[2])
	}
}

// P11.2: a dot where there is nothing to go.
func TestRelativeSame(t *testing.T) {
	for _, dir := range append(dirs(), letters(255), strings.TrimSuffix(strings.Repeat("a/", 2000), "/")) {
		checkRelative(t, dir, dir, ".")
	}
}

// P11.2: all pairs, as the library names them, and resolved they are what was to be named.
func TestRelativeBack(t *testing.T) {
	for _, dir := range dirs() {
		for _, to := range dirs() {
			want, err := filepath.Rel("/"+dir, "/"+to)
			if err != nil {
				t.Fatal(err)
			}
			checkRelative(t, dir, to, want)
			check(t, dir, want, to)
		}
	}
}

// P11.2: long paths.
func TestRelativeLong(t *testing.T) {
	dir := strings.TrimSuffix(strings.Repeat("d/", 2000), "/")
	to := strings.TrimSuffix(strings.Repeat("e/", 2000), "/")
	checkRelative(t, dir, to, strings.Repeat("../", 2000)+to)
	checkRelative(t, dir, "", strings.TrimSuffix(strings.Repeat("../", 2000), "/"))
	checkRelative(t, "", to, to)
	checkRelative(t, dir, dir[:3997], "..")
	checkRelative(t, dir[:3997], dir, "d")
}

// callAll: every call is answered (P1), beside an error by nothing else, and by the same however often it is asked (P2).
func callAll(t *testing.T, dir, to string) {
	s, e := target.Resolve(dir, to)
	if again, f := target.Resolve(dir, to); again != s || f != e || e != api.OK && s != "" {
		t.Errorf("Resolve of %q in %q: %q %v, then %q %v", to, dir, s, e, again, f)
	}
	if target.Relative(dir, to) != target.Relative(dir, to) {
		t.Errorf("Relative of %q to %q is answered otherwise the second time", dir, to)
	}
	if parts, f := path.Clean(dir); f == api.OK && path.Join(parts...) == dir {
		checkModel(t, dir, to)
	}
}

// P1: directories that aren't clean, and any bytes.
func TestAnything(t *testing.T) {
	rough := append(names(3, "a", ".", "/", "\x00", "\xff"), letters(10000), strings.Repeat("/", 10000), strings.Repeat("../", 3000))
	for _, dir := range rough {
		for _, to := range rough {
			callAll(t, dir, to)
		}
	}
}

// P1: any bytes at all.
func FuzzAnything(f *testing.F) {
	f.Add("a/b", "../c")
	f.Add("a", "../../c")
	f.Add("/", "..//\x00")
	f.Fuzz(callAll)
}
