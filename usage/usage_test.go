package usage_test

import (
	"maps"
	"math"
	"math/rand"
	"reflect"
	"slices"
	"strconv"
	"strings"
	"testing"

	"pannier/api"
	"pannier/extent"
	"pannier/path"
	"pannier/tree"
	"pannier/usage"
)

func file(size int) tree.Node {
	return tree.Node{Kind: api.File, Content: extent.Content{Size: size}}
}

func add(t testing.TB, x tree.Tree, s string, n tree.Node) tree.Tree {
	t.Helper()
	out, e := x.Add(s, n)
	if e != api.OK {
		t.Fatalf("Add(%q): %v", s, e)
	}
	return out
}

func link(t testing.TB, x tree.Tree, s, to string) tree.Tree {
	t.Helper()
	out, e := x.Link(s, to)
	if e != api.OK {
		t.Fatalf("Link(%q, %q): %v", s, to, e)
	}
	return out
}

func cut(t testing.TB, x tree.Tree, s string) tree.Tree {
	t.Helper()
	out, e := x.Cut(s)
	if e != api.OK {
		t.Fatalf("Cut(%q): %v", s, e)
	}
	return out
}

func wantOf(t testing.TB, what string, x tree.Tree, want usage.Usage) {
	t.Helper()
	if got := usage.Of(x); got != want {
		t.Errorf("Of %s: %+v, not %+v", what, got, want)
	}
}

// The document's example: three bytes at d/a, and bb, a second name.
func TestExample(t *testing.T) {
	x := link(t, add(t, tree.Tree{}, "d/a", file(3)), "bb", "d/a")
	wantOf(t, "the example", x, usage.Usage{Bytes: 3, Inodes: 2, Depth: 2, Length: 3})
}

// P14.1: of no rows all is 0.
func TestOfNothing(t *testing.T) {
	wantOf(t, "the zero tree", tree.Tree{}, usage.Usage{})
	wantOf(t, "no rows", tree.Tree{Rows: []tree.Row{}, Next: 7}, usage.Usage{})
	x := cut(t, add(t, tree.Tree{}, "a/b/c", file(9)), "")
	wantOf(t, "a tree of which all was cut", x, usage.Usage{})
}

// P14.1: files, names and directories are things, and bytes are those of files alone.
func TestOfKinds(t *testing.T) {
	wantOf(t, "a file", add(t, tree.Tree{}, "abc", file(5)), usage.Usage{Bytes: 5, Inodes: 1, Depth: 1, Length: 3})
	wantOf(t, "an empty file", add(t, tree.Tree{}, "a", file(0)), usage.Usage{Inodes: 1, Depth: 1, Length: 1})
	soft := tree.Node{Kind: api.Soft, Target: "a/long/target/of/many/parts"}
	wantOf(t, "a name", add(t, tree.Tree{}, "s", soft), usage.Usage{Inodes: 1, Depth: 1, Length: 1})
	wantOf(t, "a directory", add(t, tree.Tree{}, "dd", tree.Node{Kind: api.Dir}), usage.Usage{Inodes: 1, Depth: 1, Length: 2})
	wantOf(t, "directories that nobody named", add(t, tree.Tree{}, "a/b/c/d", file(1)), usage.Usage{Bytes: 1, Inodes: 4, Depth: 4, Length: 7})
	for _, kind := range []int{api.Soft, api.Dir} {
		n := tree.Node{Kind: kind, Content: extent.Content{Size: 8}}
		wantOf(t, "a content that is no file's", add(t, tree.Tree{}, "a", n), usage.Usage{Inodes: 1, Depth: 1, Length: 1})
	}
}

// P14.1: what has many names is counted once, but each of its names is a path.
func TestOfManyNames(t *testing.T) {
	x := add(t, tree.Tree{}, "m", file(100))
	for i := range 20 {
		x = link(t, x, "n"+strconv.Itoa(i), "m")
	}
	wantOf(t, "21 names", x, usage.Usage{Bytes: 100, Inodes: 1, Depth: 1, Length: 3})
	x = link(t, x, "z/y/x", "m")
	wantOf(t, "a name that is deep", x, usage.Usage{Bytes: 100, Inodes: 3, Depth: 3, Length: 5})
	x = link(t, x, "a-name-that-is-long", "m")
	wantOf(t, "a name that is long", x, usage.Usage{Bytes: 100, Inodes: 3, Depth: 3, Length: 19})
	x = cut(t, x, "m")
	wantOf(t, "the first name gone", x, usage.Usage{Bytes: 100, Inodes: 3, Depth: 3, Length: 19})
	x = add(t, x, "m", file(7))
	wantOf(t, "another file in its place", x, usage.Usage{Bytes: 107, Inodes: 4, Depth: 3, Length: 19})
}

// P14.1: two files of the same bytes, and of blocks that they share, are two.
func TestOfFilesAlike(t *testing.T) {
	n := tree.Node{Kind: api.File, Content: extent.Content{Ids: []int{4}, Size: 6}}
	x := add(t, add(t, tree.Tree{}, "a", n), "b", n)
	wantOf(t, "files alike", x, usage.Usage{Bytes: 12, Inodes: 2, Depth: 1, Length: 1})
}

// P14.1: Depth counts parts, Length bytes; the deepest path needn't be the longest, nor a file's.
func TestOfDepthAndLength(t *testing.T) {
	x := add(t, tree.Tree{}, "a/b/c/d/e", tree.Node{Kind: api.Dir})
	x = add(t, x, "the-longest-one", file(2))
	wantOf(t, "a deep one and a long one", x, usage.Usage{Bytes: 2, Inodes: 6, Depth: 5, Length: 15})
	x = add(t, tree.Tree{}, "é/日本", file(0))
	wantOf(t, "parts of many bytes", x, usage.Usage{Inodes: 2, Depth: 2, Length: 9})
	deep := strings.Repeat("a/", 1999) + "a"
	wantOf(t, "the deepest path", add(t, tree.Tree{}, deep, file(1)), usage.Usage{Bytes: 1, Inodes: 2000, Depth: 2000, Length: 3999})
	long := strings.Repeat("b", path.MaxPart)
	wantOf(t, "the longest part", add(t, tree.Tree{}, long, file(1)), usage.Usage{Bytes: 1, Inodes: 1, Depth: 1, Length: 255})
}

// P14.1: a file's bytes are its Content's Size, however it came to it; sums above 32 bits fit.
func TestOfSizes(t *testing.T) {
	x := link(t, add(t, tree.Tree{}, "a", file(1)), "b", "a")
	r, _ := x.Get("a")
	x = x.Set(r.ID, extent.Content{Ids: []int{1, 2}, Size: 70})
	wantOf(t, "a file that was set", x, usage.Usage{Bytes: 70, Inodes: 1, Depth: 1, Length: 1})
	x = tree.Tree{}
	for i := range 5 {
		x = add(t, x, strconv.Itoa(i), file(3<<30))
	}
	wantOf(t, "great files", x, usage.Usage{Bytes: 15 << 30, Inodes: 5, Depth: 1, Length: 1})
}

// P14.1: the root doesn't count, not even where a row was put there.
func TestOfRoot(t *testing.T) {
	x := add(t, tree.Tree{}, "a", file(3)).Put(tree.Row{ID: 9, Node: tree.Node{Kind: api.Dir}})
	wantOf(t, "a row of the root", x, usage.Usage{Bytes: 3, Inodes: 1, Depth: 1, Length: 1})
}

// model measures a tree by other means: its numbers sorted, its contents by layer 13.
func model(x tree.Tree) usage.Usage {
	var u usage.Usage
	for _, c := range x.Contents() {
		u.Bytes += int64(c.Size)
	}
	var ids []int
	for _, r := range x.Rows {
		ids = append(ids, r.ID)
		u.Depth = max(u.Depth, strings.Count(r.Path, "/")+1)
		u.Length = max(u.Length, len(r.Path))
	}
	slices.Sort(ids)
	u.Inodes = len(slices.Compact(ids))
	return u
}

// randomTree is a tree behind some calls at random, of which some are refused.
func randomTree(rnd *rand.Rand) tree.Tree {
	var x tree.Tree
	some := func() string {
		parts := make([]string, 1+rnd.Intn(4))
		for i := range parts {
			parts[i] = []string{"a", "bb", "ccc"}[rnd.Intn(3)]
		}
		return strings.Join(parts, "/")
	}
	for range rnd.Intn(30) {
		switch rnd.Intn(6) {
		case 0, 1:
			x, _ = x.Add(some(), file(rnd.Intn(200)))
		case 2:
			x, _ = x.Add(some(), tree.Node{Kind: []int{api.Soft, api.Dir}[rnd.Intn(2)]})
		case 3, 4:
			x, _ = x.Link(some(), some())
		default:
			if y, e := x.Cut(some()); e == api.OK {
				x = y
			}
		}
	}
	return x
}

// P14.1, held against the model.
func TestOfModel(t *testing.T) {
	rnd := rand.New(rand.NewSource(1))
	for range 3000 {
		x := randomTree(rnd)
		if got, want := usage.Of(x), model(x); got != want {
			t.Fatalf("Of %+v: %+v, not %+v", x.Rows, got, want)
		}
	}
}

// P14.2: sums, and the greater ones.
func TestPlus(t *testing.T) {
	for _, x := range []struct{ u, v, want usage.Usage }{
		{usage.Usage{}, usage.Usage{}, usage.Usage{}},
		{usage.Usage{Bytes: 1, Inodes: 2, Depth: 3, Length: 4}, usage.Usage{}, usage.Usage{Bytes: 1, Inodes: 2, Depth: 3, Length: 4}},
		{usage.Usage{Bytes: 1, Inodes: 20, Depth: 3, Length: 40}, usage.Usage{Bytes: 10, Inodes: 2, Depth: 30, Length: 4}, usage.Usage{Bytes: 11, Inodes: 22, Depth: 30, Length: 40}},
		{usage.Usage{Bytes: 5, Inodes: 5, Depth: 5, Length: 5}, usage.Usage{Bytes: 5, Inodes: 5, Depth: 5, Length: 5}, usage.Usage{Bytes: 10, Inodes: 10, Depth: 5, Length: 5}},
		{usage.Usage{Bytes: math.MaxInt64 - 1, Inodes: math.MaxInt - 1, Depth: math.MaxInt, Length: 1}, usage.Usage{Bytes: 1, Inodes: 1, Depth: 1, Length: math.MaxInt}, usage.Usage{Bytes: math.MaxInt64, Inodes: math.MaxInt, Depth: math.MaxInt, Length: math.MaxInt}},
		{usage.Usage{Bytes: 3, Inodes: 3, Depth: 3, Length: 3}, usage.Usage{Bytes: -1, Inodes: -2, Depth: -3, Length: -4}, usage.Usage{Bytes: 2, Inodes: 1, Depth: 3, Length: 3}},
		{usage.Usage{Depth: -5, Length: -6}, usage.Usage{Depth: -7, Length: -4}, usage.Usage{Depth: -5, Length: -4}},
	} {
		if got := x.u.Plus(x.v); got != x.want {
			t.Errorf("%+v.Plus(%+v): %+v, not %+v", x.u, x.v, got, x.want)
		}
		if got := x.v.Plus(x.u); got != x.want {
			t.Errorf("%+v.Plus(%+v): %+v, not %+v", x.v, x.u, got, x.want)
		}
	}
}

// P14.2: two trees beside each other, in directories of the same length, have what both have.
func TestPlusOfTrees(t *testing.T) {
	rnd := rand.New(rand.NewSource(2))
	for range 300 {
		a, b := randomTree(rnd), randomTree(rnd)
		both := tree.Tree{}
		for _, r := range a.Rows {
			r.Path = "x" + r.Path
			both = both.Put(r)
		}
		for _, r := range b.Rows {
			r.Path = "y" + r.Path
			r.ID += 1000
			both = both.Put(r)
		}
		want := usage.Of(a).Plus(usage.Of(b))
		if len(both.Rows) > 0 {
			want.Length++
		}
		if got := usage.Of(both); got != want {
			t.Fatalf("both: %+v, not %+v", got, want)
		}
	}
}

// P14.2: as much as the limits say fits, and one more of any of the four doesn't.
func TestFits(t *testing.T) {
	l := api.Limits{Bytes: 10, Inodes: 20, Depth: 30, Length: 40, Num: -1, Den: -1, Allow: -1}
	for _, x := range []struct {
		u    usage.Usage
		want bool
	}{
		{usage.Usage{}, true},
		{usage.Usage{Bytes: 10, Inodes: 20, Depth: 30, Length: 40}, true},
		{usage.Usage{Bytes: 11, Inodes: 20, Depth: 30, Length: 40}, false},
		{usage.Usage{Bytes: 10, Inodes: 21, Depth: 30, Length: 40}, false},
		{usage.Usage{Bytes: 10, Inodes: 20, Depth: 31, Length: 40}, false},
		{usage.Usage{Bytes: 10, Inodes: 20, Depth: 30, Length: 41}, false},
		{usage.Usage{Bytes: 11}, false},
		{usage.Usage{Inodes: 21}, false},
		{usage.Usage{Depth: 31}, false},
		{usage.Usage{Length: 41}, false},
		{usage.Usage{Bytes: math.MinInt64, Inodes: math.MinInt, Depth: math.MinInt, Length: math.MinInt}, true},
		{usage.Usage{Bytes: math.MaxInt64, Inodes: math.MaxInt, Depth: math.MaxInt, Length: math.MaxInt}, false},
	} {
		if got := x.u.Fits(l); got != x.want {
			t.Errorf("%+v.Fits: %v", x.u, got)
		}
	}
	if !(usage.Usage{}).Fits(api.Limits{}) {
		t.Error("nothing doesn't fit into nothing")
	}
	if (usage.Usage{}).Fits(api.Limits{Bytes: -1, Inodes: 1, Depth: 1, Length: 1}) {
		t.Error("nothing fits into less")
	}
	great := api.Limits{Bytes: math.MaxInt64, Inodes: math.MaxInt, Depth: math.MaxInt, Length: math.MaxInt}
	if !(usage.Usage{Bytes: math.MaxInt64, Inodes: math.MaxInt, Depth: math.MaxInt, Length: math.MaxInt}).Fits(great) {
		t.Error("the greatest doesn't fit into the greatest")
	}
}

// P1: rows of any kind, with any texts and numbers, are measured without a panic.
func TestAnyArguments(t *testing.T) {
	texts := []string{"", "/", "//", ".", "..", "a//b", "/a/", "\x00", "\xff\xfe", strings.Repeat("x/", 5000)}
	numbers := []int{math.MinInt, -1, 0, 1, math.MaxInt}
	var rows []tree.Row
	for i, s := range texts {
		for _, n := range numbers {
			rows = append(rows, tree.Row{Path: s, ID: n, Node: tree.Node{Kind: i % 6, Mode: n, Content: extent.Content{Size: n}}})
		}
	}
	u := usage.Of(tree.Tree{Rows: rows, Next: -1})
	u.Plus(u).Fits(api.Limits{})
	for _, r := range rows {
		usage.Of(tree.Tree{}.Put(r))
		usage.Of(tree.Tree{Rows: []tree.Row{r, r}})
	}
}

// P2: a tree that was measured stays as it is, in its spare room, too, and the answer is the same once more.
func TestTreeStays(t *testing.T) {
	rnd := rand.New(rand.NewSource(3))
	for range 200 {
		x := randomTree(rnd)
		spare := tree.Row{Path: "spare", ID: 77, Node: file(77)}
		x.Rows = slices.Concat(x.Rows, []tree.Row{spare})[:len(x.Rows)]
		rows, contents := slices.Clone(x.Rows), maps.Clone(x.Contents())
		first := usage.Of(x)
		if !reflect.DeepEqual(rows, slices.Clone(x.Rows)) || !reflect.DeepEqual(contents, x.Contents()) {
			t.Fatal("the tree has changed")
		}
		if got := x.Rows[:len(x.Rows)+1][len(x.Rows)]; !reflect.DeepEqual(got, spare) {
			t.Fatal("the spare room has changed")
		}
		if usage.Of(x) != first {
			t.Fatal("another answer")
		}
	}
}
