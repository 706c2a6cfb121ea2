package merge_test

import (
	"math"
	"math/rand"
	"reflect"
	"slices"
	"strconv"
	"strings"
	"testing"

	"pannier/api"
	"pannier/block"
	"pannier/extent"
	"pannier/merge"
	"pannier/path"
	"pannier/tree"
)

var kinds = []int{api.File, api.Soft, api.Dir}

// node is a thing of a kind, with a Mode by which it is known.
func node(kind, mode int) tree.Node { return tree.Node{Kind: kind, Mode: mode} }

// file is a file with a content of so many bytes, in blocks from first on.
func file(first, size int) tree.Node {
	c := extent.Content{Size: size}
	for i := range (size + block.Size - 1) / block.Size {
		c.Ids = append(c.Ids, first+i)
	}
	return tree.Node{Kind: api.File, Mode: first, Content: c}
}

func add(t testing.TB, x tree.Tree, s string, n tree.Node) tree.Tree {
	t.Helper()
	out, e := x.Add(s, n)
	if e != api.OK {
		t.Fatalf("Add(%q) of the kind %d: %v", s, n.Kind, e)
	}
	return out
}

func link(t testing.TB, x tree.Tree, s, to string) tree.Tree {
	t.Helper()
	out, e := x.Link(s, to)
	if e != api.OK {
		t.Fatalf("Link(%q, %q): %v", s, to, e)
	}
	return out
}

func cut(t testing.TB, x tree.Tree, s string) tree.Tree {
	t.Helper()
	out, e := x.Cut(s)
	if e != api.OK {
		t.Fatalf("Cut(%q): %v", s, e)
	}
	return out
}

func over(t testing.TB, base, upper tree.Tree) tree.Tree {
	t.Helper()
	out, e := merge.Over(base, upper)
	if e != api.OK {
		t.Fatalf("Over: %v", e)
	}
	return out
}

func get(t testing.TB, x tree.Tree, s string) tree.Row {
	t.Helper()
	r, ok := x.Get(s)
	if !ok {
		t.Fatalf("nothing at %q", s)
	}
	return r
}

// lines is rows as texts: path, number, kind (m: a directory that nobody named), mode.
func lines(rows []tree.Row) []string {
	letter := map[int]string{api.File: "f", api.Soft: "s", api.Dir: "d"}
	out := []string{}
	for _, r := range rows {
		word := letter[r.Kind]
		if r.Kind == api.Dir && r.Made {
			word = "m"
		}
		out = append(out, r.Path+" "+strconv.Itoa(r.ID)+word+strconv.Itoa(r.Mode))
	}
	return out
}

func check(t testing.TB, x tree.Tree, next int, want ...string) {
	t.Helper()
	if got := lines(x.Rows); !slices.Equal(got, want) || x.Next != next {
		t.Fatalf("rows %q and Next %d, not %q and %d", got, x.Next, want, next)
	}
}

// deep is a tree that shares nothing with the one it is made of.
func deep(x tree.Tree) tree.Tree {
	out := tree.Tree{Rows: slices.Clone(x.Rows), Next: x.Next}
	for i := range out.Rows {
		out.Rows[i].Content.Ids = slices.Clone(out.Rows[i].Content.Ids)
	}
	return out
}

// same: whether two trees are alike, no matter whether what is empty is nil.
func same(x, y tree.Tree) bool {
	return x.Next == y.Next && slices.EqualFunc(x.Rows, y.Rows, sameRow)
}

func sameRow(a, b tree.Row) bool {
	if !sameContent(a.Content, b.Content) {
		return false
	}
	a.Content, b.Content = extent.Content{}, extent.Content{}
	return reflect.DeepEqual(a, b)
}

func sameContent(a, b extent.Content) bool { return a.Size == b.Size && slices.Equal(a.Ids, b.Ids) }

// published has each kind, a file of two names, and directories that were named and that weren't.
func published(t testing.TB) tree.Tree {
	t.Helper()
	x := add(t, tree.Tree{}, "d", node(api.Dir, 1))
	x = add(t, x, "d/f", file(2, 70))
	x = add(t, x, "d/s", tree.Node{Kind: api.Soft, Mode: 3, Target: "f"})
	x = add(t, x, "m/e/f", file(4, 5))
	x = link(t, x, "g", "d/f")
	check(t, x, 6, "d 0d1", "d/f 1f2", "d/s 2s3", "g 1f2", "m 3m493", "m/e 4m493", "m/e/f 5f4")
	return x
}

// The chapter's example.
func TestExample(t *testing.T) {
	base := add(t, tree.Tree{}, "d/a", file(1, 3))
	out := over(t, base, add(t, tree.Tree{}, "d/a", file(2, 5)))
	check(t, out, 4, "d 0m493", "d/a 3f2")
	if r := get(t, out, "d/a"); !sameContent(r.Content, extent.Content{Ids: []int{2}, Size: 5}) {
		t.Errorf("the upper file: %v", r)
	}
	gone := merge.Gone(base, out)
	if len(gone) != 1 || !sameContent(gone[0], extent.Content{Ids: []int{1}, Size: 3}) {
		t.Errorf("Gone: %v", gone)
	}
}

// P17.1: what is laid beside all that is there: its numbers are greater, its other fields as they were.
func TestOverBeside(t *testing.T) {
	full := tree.Node{Kind: api.File, Mode: 7, Uid: -1, Gid: 1 << 40, Mtime: -9, User: "u", Group: "g", Content: extent.Content{Ids: []int{8, 6}, Size: 99}}
	soft := tree.Node{Kind: api.Soft, Mode: 8, Uid: 2, Gid: 3, Mtime: 4, User: "v", Group: "h", Target: "../x//y"}
	dir := tree.Node{Kind: api.Dir, Mode: 9, Uid: 5, Gid: 6, Mtime: 7, User: "w", Group: "i"}
	upper := add(t, tree.Tree{}, "a", full)
	upper = add(t, upper, "d/g", soft)
	upper = add(t, upper, "z", dir)
	upper = add(t, upper, "z/y/x", node(api.File, 6))
	base := published(t)
	out := over(t, base, upper)
	check(t, out, 12, "a 6f7", "d 0d1", "d/f 1f2", "d/g 8s8", "d/s 2s3", "g 1f2", "m 3m493", "m/e 4m493", "m/e/f 5f4", "z 9d9", "z/y 10m493", "z/y/x 11f6")
	for _, want := range []tree.Row{{Path: "a", ID: 6, Node: full}, {Path: "d/g", ID: 8, Node: soft}, {Path: "z", ID: 9, Node: dir}} {
		if r := get(t, out, want.Path); !sameRow(r, want) {
			t.Errorf("the row %v, not %v", r, want)
		}
	}
	for _, want := range base.Rows {
		if r := get(t, out, want.Path); !sameRow(r, want) {
			t.Errorf("the row that was there %v, not %v", r, want)
		}
	}
}

// P17.1: trees with no rows are laid over others, and others over them.
func TestOverNothing(t *testing.T) {
	x := published(t)
	for _, c := range []struct{ base, upper, want tree.Tree }{
		{tree.Tree{}, tree.Tree{}, tree.Tree{}},
		{x, tree.Tree{}, x},
		{tree.Tree{}, x, x},
		{cut(t, x, ""), tree.Tree{}, tree.Tree{Next: 6}},
		{x, cut(t, x, ""), tree.Tree{Rows: x.Rows, Next: 12}},
	} {
		if out := over(t, c.base, c.upper); !same(out, c.want) {
			t.Errorf("%v over %v: %v", c.upper, c.base, out)
		}
	}
	check(t, over(t, cut(t, x, ""), x), 12, "d 6d1", "d/f 7f2", "d/s 8s3", "g 7f2", "m 9m493", "m/e 10m493", "m/e/f 11f4")
}

// P17.1: a tree laid over itself: directories stay the ones they are, all else is new.
func TestOverItself(t *testing.T) {
	x := published(t)
	out := over(t, x, x)
	check(t, out, 12, "d 0d1", "d/f 7f2", "d/s 8s3", "g 7f2", "m 3m493", "m/e 4m493", "m/e/f 11f4")
	check(t, over(t, out, x), 18, "d 0d1", "d/f 13f2", "d/s 14s3", "g 13f2", "m 3m493", "m/e 4m493", "m/e/f 17f4")
}

// P17.1: which kind is laid over which, at the root and in directories, and with which number.
func TestOverInPlace(t *testing.T) {
	for _, s := range []string{"b", "d/b", "x/y/b"} {
		for _, was := range kinds {
			for _, now := range kinds {
				base := add(t, published(t), s, tree.Node{Kind: was, Mode: 5, Target: "t", Content: extent.Content{Ids: []int{7}, Size: 7}})
				n := tree.Node{Kind: now, Mode: 6, Uid: 1, Gid: 2, Mtime: 3, User: "u", Group: "g", Target: "r", Content: extent.Content{Ids: []int{9}, Size: 9}}
				upper := add(t, tree.Tree{}, s, n)
				out, e := merge.Over(base, upper)
				if (was == api.Dir) != (now == api.Dir) {
					if e != api.ErrClash || !same(out, base) {
						t.Errorf("the kind %d over %d at %q: %v, %v", now, was, s, e, out)
					}
					continue
				}
				id := base.Next + upper.Next - 1
				if now == api.Dir {
					id = get(t, base, s).ID
				}
				if r := get(t, out, s); e != api.OK || !sameRow(r, tree.Row{Path: s, ID: id, Node: n}) {
					t.Errorf("the kind %d over %d at %q: %v, %v", now, was, s, e, r)
				}
				if len(out.Rows) != len(base.Rows) || out.Next != base.Next+upper.Next {
					t.Errorf("the kind %d over %d at %q: %q, Next %d", now, was, s, lines(out.Rows), out.Next)
				}
			}
		}
	}
}

// P17.1: of two directories the one that was named stays, the upper one if both were; the number is the lower one's.
func TestOverDirs(t *testing.T) {
	named := func(mode int) tree.Tree {
		x := add(t, tree.Tree{}, "0", node(api.Soft, 0))
		return add(t, x, "d", node(api.Dir, mode))
	}
	made := func() tree.Tree {
		x := add(t, tree.Tree{}, "0", node(api.Soft, 0))
		return cut(t, add(t, x, "d/f", node(api.File, 0)), "d/f")
	}
	check(t, over(t, named(1), named(2)), 4, "0 2s0", "d 1d2")
	check(t, over(t, named(1), made()), 5, "0 2s0", "d 1d1")
	check(t, over(t, made(), named(2)), 5, "0 3s0", "d 1d2")
	check(t, over(t, made(), made()), 6, "0 3s0", "d 1m493")
	check(t, over(t, named(1), add(t, made(), "d", node(api.Dir, 3))), 5, "0 2s0", "d 1d3")
	odd := add(t, tree.Tree{}, "d", tree.Node{Kind: api.Dir, Mode: 7, Made: true}) // Made, yet unlike those that layer 13 makes
	check(t, over(t, odd, made()), 4, "0 1s0", "d 0m7")
	check(t, over(t, made(), odd), 4, "0 0s0", "d 1m493")
}

// P17.1: a directory that nobody named is laid where nothing stands.
func TestOverMadeIsNew(t *testing.T) {
	upper := add(t, tree.Tree{}, "m/n/f", file(1, 1))
	out := over(t, add(t, tree.Tree{}, "a", node(api.Dir, 1)), upper)
	check(t, out, 4, "a 0d1", "m 1m493", "m/n 2m493", "m/n/f 3f1")
	check(t, over(t, out, upper), 7, "a 0d1", "m 1m493", "m/n 2m493", "m/n/f 6f1")
}

// P17.1: only of a Dir it matters whether it is Made.
func TestOverMadeOthers(t *testing.T) {
	for _, kind := range []int{api.File, api.Soft} {
		base := add(t, tree.Tree{}, "a", tree.Node{Kind: kind, Mode: 1})
		out := over(t, base, add(t, tree.Tree{}, "a", tree.Node{Kind: kind, Mode: 2, Made: true}))
		if r := get(t, out, "a"); !reflect.DeepEqual(r, tree.Row{Path: "a", ID: 1, Node: tree.Node{Kind: kind, Mode: 2, Made: true}}) {
			t.Errorf("the kind %d: %v", kind, r)
		}
	}
}

// P17.1: what lies in a directory that is there stays, if the directory is named anew.
func TestOverKeepsWhatLiesInside(t *testing.T) {
	out := over(t, published(t), add(t, tree.Tree{}, "m", node(api.Dir, 8)))
	check(t, out, 7, "d 0d1", "d/f 1f2", "d/s 2s3", "g 1f2", "m 3d8", "m/e 4m493", "m/e/f 5f4")
}

// P17.1: names of one file stay names of one file; one of them that is laid over leaves the others.
func TestOverNames(t *testing.T) {
	upper := add(t, tree.Tree{}, "g", file(9, 130))
	upper = link(t, upper, "h", "g")
	upper = link(t, upper, "n/i", "h")
	out := over(t, published(t), upper)
	check(t, out, 8, "d 0d1", "d/f 1f2", "d/s 2s3", "g 6f9", "h 6f9", "m 3m493", "m/e 4m493", "m/e/f 5f4", "n 7m493", "n/i 6f9")
	for _, s := range []string{"g", "h", "n/i"} {
		if r := get(t, out, s); !sameContent(r.Content, file(9, 130).Content) {
			t.Errorf("the name %q: %v", s, r)
		}
	}
	if out.Names(1) != 1 || get(t, out, "d/f").Content.Size != 70 {
		t.Error("the other name of the file that was there")
	}
	both := over(t, published(t), link(t, add(t, tree.Tree{}, "d/f", file(9, 1)), "g", "d/f"))
	if both.Names(1) != 0 || both.Names(7) != 2 {
		t.Errorf("both names laid over: %q", lines(both.Rows))
	}
}

// P17.1: numbers that are no more aren't given once more: Next counts, not what is there.
func TestOverBehindCut(t *testing.T) {
	base := cut(t, cut(t, published(t), "m"), "d/f")
	upper := cut(t, add(t, add(t, tree.Tree{}, "a", node(api.File, 1)), "b", node(api.File, 2)), "a")
	check(t, over(t, base, upper), 8, "b 7f2", "d 0d1", "d/s 2s3", "g 1f2")
}

// P17.1: the order of rows is part by part, not byte by byte.
func TestOverOrder(t *testing.T) {
	names := []string{"a", "a/b", "a/b/c", "a/b!", "a!", "a!/z", "a-b", "a.b", "aa", "b", "é"}
	rnd := rand.New(rand.NewSource(1))
	for range 500 {
		base, upper := tree.Tree{}, tree.Tree{}
		for _, s := range names {
			at := rnd.Intn(3)
			if at != 0 {
				base = add(t, base, s, node(api.Dir, 1))
			}
			if at != 1 {
				upper = add(t, upper, s, node(api.Dir, 2))
			}
		}
		got := []string{}
		for _, r := range over(t, base, upper).Rows {
			got = append(got, r.Path)
		}
		if !slices.Equal(got, names) {
			t.Fatalf("the order %q", got)
		}
	}
}

// P17.1: one clash is enough, wherever it is; then base is answered, its Next, too.
func TestOverClash(t *testing.T) {
	base := published(t)
	was := deep(base)
	for _, c := range []struct {
		s    string
		kind int
	}{
		{"d", api.File}, {"d", api.Soft}, {"m", api.File}, {"m", api.Soft}, {"m/e", api.File}, {"m/e", api.Soft},
		{"d/f", api.Dir}, {"d/s", api.Dir}, {"g", api.Dir}, {"m/e/f", api.Dir},
		{"d/f/x", api.File}, {"d/s/x", api.Dir}, {"g/x/y/z", api.Soft}, {"m/e/f/x", api.File}, // by a directory that nobody named
	} {
		for _, others := range [][]string{nil, {"a"}, {"z"}, {"a", "d/a", "m/e/a", "m/z", "z"}} {
			upper := add(t, tree.Tree{}, c.s, node(c.kind, 1))
			for _, s := range others {
				if x, e := upper.Add(s, node(api.File, 2)); e == api.OK {
					upper = x
				}
			}
			out, e := merge.Over(base, upper)
			if e != api.ErrClash || !same(out, was) || !same(base, was) {
				t.Errorf("the kind %d at %q: %v, %q", c.kind, c.s, e, lines(out.Rows))
			}
		}
	}
}

// P17.1: nothing clashes with what stood there once, or stands at a path that only begins alike.
func TestOverNoClash(t *testing.T) {
	base := cut(t, published(t), "d")
	check(t, over(t, base, add(t, tree.Tree{}, "d", node(api.File, 8))), 7, "d 6f8", "g 1f2", "m 3m493", "m/e 4m493", "m/e/f 5f4")
	check(t, over(t, base, add(t, tree.Tree{}, "gg/x", node(api.File, 8))), 8, "g 1f2", "gg 6m493", "gg/x 7f8", "m 3m493", "m/e 4m493", "m/e/f 5f4")
	check(t, over(t, base, add(t, tree.Tree{}, "mm", node(api.Soft, 8))), 7, "g 1f2", "m 3m493", "m/e 4m493", "m/e/f 5f4", "mm 6s8")
}

// P17.2: just the files of which no name is left are gone.
func TestGone(t *testing.T) {
	x := published(t)
	f, g := file(2, 70).Content, file(4, 5).Content
	for _, c := range []struct {
		what string
		now  tree.Tree
		want []extent.Content
	}{
		{"the same tree", x, nil},
		{"nothing", tree.Tree{}, []extent.Content{f, g}},
		{"all cut", cut(t, x, ""), []extent.Content{f, g}},
		{"a name cut", cut(t, x, "g"), nil},
		{"the other name cut", cut(t, x, "d"), nil},
		{"both names cut", cut(t, cut(t, x, "d/f"), "g"), []extent.Content{f}},
		{"another file cut", cut(t, x, "m"), []extent.Content{g}},
		{"a name that points elsewhere cut", cut(t, x, "d/s"), nil},
		{"a third name", link(t, cut(t, cut(t, link(t, x, "n", "g"), "d"), "g"), "o", "n"), nil},
		{"a name in the place of the file", over(t, x, add(t, tree.Tree{}, "m/e/f", node(api.Soft, 1))), []extent.Content{g}},
		{"a file in the place of a name", over(t, x, add(t, tree.Tree{}, "g", file(9, 9))), nil},
		{"a clash", first(merge.Over(x, add(t, tree.Tree{}, "d", node(api.File, 1)))), nil},
		{"the tree over itself", over(t, x, x), []extent.Content{f, g}},
		{"more files", over(t, x, add(t, tree.Tree{}, "z", file(9, 9))), nil},
		{"a file that has grown", x.Set(1, file(2, 100).Content), nil},
	} {
		if got := merge.Gone(x, c.now); !slices.EqualFunc(got, c.want, sameContent) {
			t.Errorf("%s: %v, not %v", c.what, got, c.want)
		}
	}
	if got := merge.Gone(tree.Tree{}, x); len(got) != 0 {
		t.Errorf("of nothing: %v", got)
	}
}

func first(x tree.Tree, _ api.Errno) tree.Tree { return x }

// P17.2: the number has to be a File's in both trees.
func TestGoneNumbersOfOthers(t *testing.T) {
	was := add(t, tree.Tree{}, "a", file(1, 1))
	for _, kind := range kinds {
		now := add(t, tree.Tree{}, "b", tree.Node{Kind: kind, Content: extent.Content{Ids: []int{2}, Size: 2}})
		want := 1
		if kind == api.File {
			want = 0
		}
		if got := merge.Gone(was, now); len(got) != want {
			t.Errorf("the number of the kind %d: %v", kind, got)
		}
		if got := merge.Gone(now, tree.Tree{}); len(got) != 1-want {
			t.Errorf("what the kind %d had: %v", kind, got)
		}
	}
}

// P17.2: a content is told once for each file: not for each name, and of no bytes, too.
func TestGoneOnce(t *testing.T) {
	x := add(t, tree.Tree{}, "a", file(1, 65))
	for i := range 20 {
		x = link(t, x, "n/"+strconv.Itoa(i), "a")
	}
	x = add(t, x, "e", file(0, 0))
	x = add(t, x, "f", file(0, 0))
	x = add(t, x, "g", file(1, 65))
	want := []extent.Content{file(1, 65).Content, {}, {}, file(1, 65).Content}
	if got := merge.Gone(x, tree.Tree{}); !slices.EqualFunc(got, want, sameContent) {
		t.Errorf("Gone: %v", got)
	}
}

// P17.2, and rule 4: there is no chance in the order in which contents are told.
func TestGoneOrder(t *testing.T) {
	x := tree.Tree{}
	want := []extent.Content{}
	for i := range 200 {
		x = add(t, x, strconv.Itoa(i*7919%200), file(i, 1))
		want = append(want, file(i, 1).Content)
	}
	for range 20 {
		if got := merge.Gone(x, tree.Tree{}); !slices.EqualFunc(got, want, sameContent) {
			t.Fatal("not in the order of their numbers")
		}
	}
}

// What is gone is dropped, and just the blocks of what is there are taken, with files of many names, too.
func TestGoneFreesBlocks(t *testing.T) {
	a, _ := block.New(64)
	fill := func(x tree.Tree, s string, size int) tree.Tree {
		c, e := extent.Append(a, extent.Content{}, make([]byte, size))
		if e != api.OK {
			t.Fatal(e)
		}
		return add(t, x, s, tree.Node{Kind: api.File, Content: c})
	}
	rnd := rand.New(rand.NewSource(4))
	var base tree.Tree
	for range 400 {
		var upper tree.Tree
		for range 1 + rnd.Intn(3) {
			s := string(rune('a' + rnd.Intn(4)))
			if _, found := upper.Get(s); found {
				continue
			}
			upper = fill(upper, s, rnd.Intn(200))
			if rnd.Intn(2) == 0 {
				upper = link(t, upper, "l"+s, s)
			}
		}
		now := over(t, base, upper)
		for _, c := range merge.Gone(base, now) {
			if e := extent.Drop(a, c); e != api.OK {
				t.Fatal(e)
			}
		}
		base = now
		taken := 0
		for _, c := range base.Contents() {
			taken += len(c.Ids)
		}
		if a.Len()-a.Free() != taken {
			t.Fatalf("%d blocks are taken, not %d", a.Len()-a.Free(), taken)
		}
	}
}

// overByWords is what P17.1 says, by layer 13's own calls, row by row.
func overByWords(base, upper tree.Tree) (tree.Tree, api.Errno) {
	for _, r := range upper.Rows {
		if was, found := base.Get(r.Path); found && (was.Kind == api.Dir) != (r.Kind == api.Dir) {
			return base, api.ErrClash
		}
	}
	out := base
	for _, r := range upper.Rows {
		was, found := base.Get(r.Path)
		dirs := found && was.Kind == api.Dir && r.Kind == api.Dir
		if dirs && r.Made {
			continue
		}
		r.ID += base.Next
		if dirs {
			r.ID = was.ID
		}
		out = out.Put(r)
	}
	out.Next = base.Next + upper.Next
	return out, api.OK
}

// goneByWords is what P17.2 says, as a set of rows: the first name of each file of was that is gone.
func goneByWords(was, now tree.Tree) []extent.Content {
	isFile := func(rows []tree.Row, id int) bool {
		return slices.ContainsFunc(rows, func(r tree.Row) bool { return r.Kind == api.File && r.ID == id })
	}
	var gone []tree.Row
	for i, r := range was.Rows {
		if r.Kind == api.File && !isFile(was.Rows[:i], r.ID) && !isFile(now.Rows, r.ID) {
			gone = append(gone, r)
		}
	}
	slices.SortFunc(gone, func(a, b tree.Row) int { return a.ID - b.ID })
	var out []extent.Content
	for _, r := range gone {
		out = append(out, r.Content)
	}
	return out
}

// randomTree is a tree of few short paths, so that two of them meet often.
func randomTree(rnd *rand.Rand) tree.Tree {
	x := tree.Tree{}
	somewhere := func() string {
		parts := make([]string, 1+rnd.Intn(3))
		for i := range parts {
			parts[i] = []string{"a", "a!", "b", "c"}[rnd.Intn(4)]
		}
		return path.Join(parts...)
	}
	for i := range rnd.Intn(9) {
		var y tree.Tree
		var e api.Errno
		switch s := somewhere(); rnd.Intn(8) {
		case 0:
			y, e = x.Link(s, somewhere())
		case 1:
			y, e = x.Cut(s)
		case 2:
			y, e = x.Set(rnd.Intn(5), file(rnd.Intn(99), rnd.Intn(200)).Content), api.OK
		case 3, 4:
			y, e = x.Add(s, tree.Node{Kind: api.Dir, Mode: i})
		case 5:
			y, e = x.Add(s, tree.Node{Kind: api.Soft, Mode: i, Target: somewhere()})
		default:
			y, e = x.Add(s, file(rnd.Intn(99), rnd.Intn(200)))
		}
		if e == api.OK {
			x = y
		}
	}
	return x
}

// ordered: whether rows rise, and each lies in a directory.
func ordered(x tree.Tree) bool {
	for i, r := range x.Rows {
		if i > 0 && path.Compare(x.Rows[i-1].Path, r.Path) >= 0 {
			return false
		}
		up, _ := path.Up(r.Path)
		if dir, found := x.Get(up); up != "" && (!found || dir.Kind != api.Dir) {
			return false
		}
	}
	return true
}

// P17.1 and P17.2, in many trees, laid over one another again and again, and cut.
func TestByWords(t *testing.T) {
	rnd := rand.New(rand.NewSource(5))
	clashes := 0
	for range 3000 {
		base := randomTree(rnd)
		for range 4 {
			upper := randomTree(rnd)
			out, e := merge.Over(base, upper)
			want, wantErr := overByWords(base, upper)
			if e != wantErr || !same(out, want) || !ordered(out) {
				t.Fatalf("%q over %q: %v, %q, not %v, %q", lines(upper.Rows), lines(base.Rows), e, lines(out.Rows), wantErr, lines(want.Rows))
			}
			if e == api.ErrClash {
				clashes++
			}
			for _, pair := range [][2]tree.Tree{{base, out}, {upper, out}, {out, base}, {base, upper}} {
				if got := merge.Gone(pair[0], pair[1]); !slices.EqualFunc(got, goneByWords(pair[0], pair[1]), sameContent) {
					t.Fatalf("Gone of %q and %q: %v", lines(pair[0].Rows), lines(pair[1].Rows), got)
				}
			}
			base = out
			if y, e := base.Cut("a"); e == api.OK && rnd.Intn(4) == 0 {
				base = y
			}
		}
	}
	if clashes < 100 {
		t.Errorf("only %d clashes", clashes)
	}
}

// What Over answers is a tree that all calls of layer 13 take.
func TestOverIsATree(t *testing.T) {
	x := over(t, published(t), add(t, tree.Tree{}, "n/o", file(9, 9)))
	x = link(t, x, "d/o", "n/o")
	x = add(t, x, "new", node(api.Soft, 1))
	check(t, cut(t, x, "m"), 9, "d 0d1", "d/f 1f2", "d/o 7f9", "d/s 2s3", "g 1f2", "n 6m493", "n/o 7f9", "new 8s1")
	if y := x.Set(7, extent.Content{Ids: []int{3}, Size: 3}); get(t, y, "d/o").Content.Size != 3 || get(t, y, "n/o").Content.Size != 3 {
		t.Error("Set of a file that was laid over")
	}
}

// Great trees are laid over one another in one walk.
func TestOverGreat(t *testing.T) {
	const n = 200000
	great := func(step int) tree.Tree {
		x := tree.Tree{Rows: []tree.Row{{Path: "d", Node: node(api.Dir, 1)}}}
		for i := 0; i < n; i += step {
			digits := strconv.Itoa(i)
			x.Rows = append(x.Rows, tree.Row{Path: "d/" + strings.Repeat("0", 7-len(digits)) + digits, ID: len(x.Rows), Node: file(i, 1)})
		}
		x.Next = len(x.Rows)
		return x
	}
	base, upper := great(2), great(3)
	out := over(t, base, upper)
	if len(out.Rows) != 1+n*2/3 || out.Next != base.Next+upper.Next {
		t.Errorf("%d rows", len(out.Rows))
	}
	if gone := merge.Gone(base, out); len(gone) != (n+5)/6 {
		t.Errorf("%d contents", len(gone))
	}
}

// P1: trees of any rows are laid over one another without a panic.
func TestAnyArguments(t *testing.T) {
	texts := []string{"", "/", "//", ".", "..", "a//b", "/a/", "a", "a/b", "\x00", "\xff\xfe", strings.Repeat("x/", 5000)}
	numbers := []int{math.MinInt, -1, 0, 1, math.MaxInt}
	rnd := rand.New(rand.NewSource(6))
	raw := func() tree.Tree {
		x := tree.Tree{Next: numbers[rnd.Intn(len(numbers))]}
		for range rnd.Intn(8) {
			n := numbers[rnd.Intn(len(numbers))]
			x.Rows = append(x.Rows, tree.Row{Path: texts[rnd.Intn(len(texts))], ID: n, Node: tree.Node{Kind: rnd.Intn(7) - 1, Mode: n, Made: rnd.Intn(2) == 0, Content: extent.Content{Ids: make([]int, rnd.Intn(3)), Size: n}}})
		}
		return x
	}
	for range 20000 {
		x, y := raw(), raw()
		out, _ := merge.Over(x, y)
		merge.Gone(x, out)
		merge.Gone(out, y)
		merge.Gone(x, y)
	}
}

// withSpare is a tree whose rows, and the blocks of whose contents, have spare room behind them, and something in it.
func withSpare(x tree.Tree) (tree.Tree, func() bool) {
	spare := tree.Row{Path: "spare", ID: 77}
	rows := append(deep(x).Rows, spare)
	for i := range rows {
		rows[i].Content.Ids = append(slices.Clone(rows[i].Content.Ids), 77)[:len(rows[i].Content.Ids)]
	}
	out := tree.Tree{Rows: rows[:len(x.Rows)], Next: x.Next}
	return out, func() bool {
		for _, r := range out.Rows {
			if ids := r.Content.Ids; ids[:len(ids)+1][len(ids)] != 77 {
				return false
			}
		}
		return same(out, x) && rows[len(x.Rows)].Path == "spare" && rows[len(x.Rows)].ID == 77
	}
}

// scribble writes over the rows of a tree, and their spare room.
func scribble(x tree.Tree) {
	rows := x.Rows[:cap(x.Rows)]
	for i := range rows {
		rows[i] = tree.Row{Path: "scribbled", ID: -1}
	}
}

// P2: what is handed in stays as it is, and no rows are shared: neither with an argument nor with another answer.
func TestTreesStay(t *testing.T) {
	rnd := rand.New(rand.NewSource(7))
	for range 2000 {
		base, baseStays := withSpare(randomTree(rnd))
		upper, upperStays := withSpare(randomTree(rnd))
		out, e := merge.Over(base, upper)
		again, _ := merge.Over(base, upper)
		want := deep(out)
		gone, goneAgain := merge.Gone(base, upper), merge.Gone(base, upper)
		wantGone := goneByWords(base, upper)
		if !baseStays() || !upperStays() {
			t.Fatal("an argument has changed")
		}
		scribble(again)
		for _, c := range goneAgain {
			for i := range c.Ids[:cap(c.Ids)] {
				c.Ids[:cap(c.Ids)][i] = -1
			}
		}
		clear(goneAgain[:cap(goneAgain)])
		if !same(out, want) || !baseStays() || !upperStays() || !slices.EqualFunc(gone, wantGone, sameContent) {
			t.Fatalf("an answer is shared (%v)", e)
		}
		scribble(base)
		scribble(upper)
		if !same(out, want) || !slices.EqualFunc(gone, wantGone, sameContent) {
			t.Fatalf("an argument is kept (%v)", e)
		}
	}
}
