package tree_test

import (
	"maps"
	"math"
	"math/rand"
	"reflect"
	"runtime"
	"slices"
	"strconv"
	"strings"
	"testing"

	"pannier/api"
	"pannier/extent"
	"pannier/tree"
)

// kinds: what may stand at a path.
var kinds = []int{api.File, api.Soft, api.Dir}

func node(kind int) tree.Node { return tree.Node{Kind: kind, Mode: 0o640 + kind} }

// made is the row of a directory that nobody named.
func made(s string, id int) tree.Row {
	return tree.Row{Path: s, ID: id, Node: tree.Node{Kind: api.Dir, Mode: 493, Made: true}}
}

func add(t testing.TB, x tree.Tree, s string, n tree.Node) tree.Tree {
	t.Helper()
	out, e := x.Add(s, n)
	if e != api.OK {
		t.Fatalf("Add(%q) of the kind %d: %v", s, n.Kind, e)
	}
	return out
}

func link(t testing.TB, x tree.Tree, s, to string) tree.Tree {
	t.Helper()
	out, e := x.Link(s, to)
	if e != api.OK {
		t.Fatalf("Link(%q, %q): %v", s, to, e)
	}
	return out
}

func cut(t testing.TB, x tree.Tree, s string) tree.Tree {
	t.Helper()
	out, e := x.Cut(s)
	if e != api.OK {
		t.Fatalf("Cut(%q): %v", s, e)
	}
	return out
}

func get(t testing.TB, x tree.Tree, s string) tree.Row {
	t.Helper()
	r, ok := x.Get(s)
	if !ok {
		t.Fatalf("nothing at %q", s)
	}
	return r
}

// lines is rows as texts: path, number, kind.
func lines(rows []tree.Row) []string {
	letter := map[int]string{api.File: "f", api.Soft: "s", api.Dir: "d"}
	out := []string{}
	for _, r := range rows {
		word := letter[r.Kind]
		if r.Made {
			word = "m"
		}
		out = append(out, r.Path+" "+strconv.Itoa(r.ID)+word)
	}
	return out
}

func check(t testing.TB, rows []tree.Row, want ...string) {
	t.Helper()
	if got := lines(rows); !slices.Equal(got, want) {
		t.Fatalf("rows %q, not %q", got, want)
	}
}

// deep is a tree that shares nothing with the one it is made of.
func deep(x tree.Tree) tree.Tree {
	return tree.Tree{Rows: deepRows(x.Rows), Next: x.Next}
}

func deepRows(rows []tree.Row) []tree.Row {
	out := slices.Clone(rows)
	for i := range out {
		out[i].Content.Ids = slices.Clone(out[i].Content.Ids)
	}
	return out
}

// same: whether two trees are alike, no matter whether what is empty is nil.
func same(x, y tree.Tree) bool { return x.Next == y.Next && sameRows(x.Rows, y.Rows) }

func sameRows(a, b []tree.Row) bool { return slices.EqualFunc(a, b, sameRow) }

func sameRow(a, b tree.Row) bool {
	if !sameContent(a.Content, b.Content) {
		return false
	}
	a.Content, b.Content = extent.Content{}, extent.Content{}
	return reflect.DeepEqual(a, b)
}

func sameContent(a, b extent.Content) bool { return a.Size == b.Size && slices.Equal(a.Ids, b.Ids) }

// sample has each kind at the root and in a directory, a file of two names, and a directory that nobody named.
func sample(t testing.TB) tree.Tree {
	t.Helper()
	var x tree.Tree
	x = add(t, x, "d", node(api.Dir))
	x = add(t, x, "d/f", tree.Node{Kind: api.File, Mode: 1, Content: extent.Content{Ids: []int{4, 2}, Size: 70}})
	x = add(t, x, "d/s", tree.Node{Kind: api.Soft, Target: "../d"})
	x = add(t, x, "m/d/f", node(api.File))
	x = add(t, x, "s", tree.Node{Kind: api.Soft, Target: "d"})
	x = link(t, x, "g", "d/f")
	check(t, x.Rows, "d 0d", "d/f 1f", "d/s 2s", "g 1f", "m 3m", "m/d 4m", "m/d/f 5f", "s 6s")
	return x
}

// The chapter's example, and that of DOC.md.
func TestExample(t *testing.T) {
	x := add(t, tree.Tree{}, "d/a", node(api.File))
	x = link(t, x, "b", "d/a")
	check(t, x.Rows, "b 1f", "d 0m", "d/a 1f")
}

// The zero Tree has no rows, and each call takes it.
func TestZero(t *testing.T) {
	var x tree.Tree
	for _, s := range []string{"a", "a/b", ""} {
		if r, ok := x.Get(s); ok || !reflect.DeepEqual(r, tree.Row{}) {
			t.Errorf("Get(%q): %v", s, r)
		}
	}
	if rows, e := x.Sub(""); e != api.OK || len(rows) != 0 {
		t.Error("Sub of the root")
	}
	if rows, e := x.List(""); e != api.OK || len(rows) != 0 {
		t.Error("List of the root")
	}
	if y, e := x.Cut(""); e != api.OK || len(y.Rows) != 0 || y.Next != 0 {
		t.Error("Cut of the root")
	}
	if x.Names(0) != 0 || len(x.Contents()) != 0 || len(x.Set(0, extent.Content{Size: 1}).Rows) != 0 {
		t.Error("a thing in no rows")
	}
}

// P13.1: Get answers the row of just that path.
func TestGet(t *testing.T) {
	x := sample(t)
	for _, r := range x.Rows {
		if got, ok := x.Get(r.Path); !ok || !sameRow(got, r) {
			t.Errorf("Get(%q): %v", r.Path, got)
		}
	}
	for _, s := range []string{"", "a", "c", "d/", "d/a", "d/f/g", "d/g", "d/t", "e", "f", "m/d/f/x", "m/e", "t"} {
		if r, ok := x.Get(s); ok || !reflect.DeepEqual(r, tree.Row{}) {
			t.Errorf("Get(%q): %v", s, r)
		}
	}
}

// The order of rows is layer 10's: part by part, not byte by byte.
func TestOrder(t *testing.T) {
	names := []string{"a", "a/b", "a/b/c", "a/b!", "a!", "a!/z", "a-b", "a.b", "aa", "b", "é"}
	x := tree.Tree{}
	for _, i := range rand.New(rand.NewSource(1)).Perm(len(names)) {
		x = add(t, x, names[i], node(api.Dir))
	}
	got := []string{}
	for _, r := range x.Rows {
		got = append(got, r.Path)
	}
	if !slices.Equal(got, names) {
		t.Errorf("the order %q", got)
	}
	for _, s := range names {
		get(t, x, s)
	}
}

// P13.1: the parents that aren't there are made from the root on, each with the next number, ahead of the thing's.
func TestParents(t *testing.T) {
	x := add(t, tree.Tree{}, "z", node(api.File))
	x = add(t, x, "a/b/c/d", node(api.Soft))
	check(t, x.Rows, "a 1m", "a/b 2m", "a/b/c 3m", "a/b/c/d 4s", "z 0f")
	if x.Next != 5 {
		t.Errorf("Next %d", x.Next)
	}
	for i, s := range []string{"a", "a/b", "a/b/c"} {
		if r := get(t, x, s); !reflect.DeepEqual(r, made(s, i+1)) {
			t.Errorf("the parent %v", r)
		}
	}
	x = add(t, x, "a/b/e/f/g", node(api.Dir))
	check(t, x.Rows, "a 1m", "a/b 2m", "a/b/c 3m", "a/b/c/d 4s", "a/b/e 5m", "a/b/e/f 6m", "a/b/e/f/g 7d", "z 0f")
	x = link(t, x, "a/a/z", "z")
	check(t, x.Rows, "a 1m", "a/a 8m", "a/a/z 0f", "a/b 2m", "a/b/c 3m", "a/b/c/d 4s", "a/b/e 5m", "a/b/e/f 6m", "a/b/e/f/g 7d", "z 0f")
	if x.Next != 9 {
		t.Errorf("Next %d behind a Link", x.Next)
	}
	if r := get(t, x, "a/a"); !reflect.DeepEqual(r, made("a/a", 8)) {
		t.Errorf("the parent of a Link %v", r)
	}
}

// P13.1: a directory that is there stays as it is, named or not.
func TestParentsStay(t *testing.T) {
	n := tree.Node{Kind: api.Dir, Mode: 7, Uid: 1, Gid: 2, Mtime: 3, User: "u", Group: "g"}
	x := add(t, tree.Tree{}, "d", n)
	x = add(t, x, "d/e/f", node(api.File))
	if r := get(t, x, "d"); !reflect.DeepEqual(r, tree.Row{Path: "d", ID: 0, Node: n}) {
		t.Errorf("the directory that was named: %v", r)
	}
	x = add(t, x, "d/e/g", node(api.File))
	if r := get(t, x, "d/e"); !reflect.DeepEqual(r, made("d/e", 1)) || x.Next != 4 {
		t.Errorf("the directory that was made: %v", r)
	}
}

// P13.1: nothing lies in what is no Dir, at whatever depth; then no parent is made.
func TestParentsClash(t *testing.T) {
	for _, kind := range []int{api.File, api.Soft} {
		for _, s := range []string{"a", "d/a", "q/e/a"} {
			x := add(t, sample(t), s, node(kind))
			was := deep(x)
			for _, rest := range []string{"/b", "/b/c", "/b/c/d/e"} {
				for _, k := range kinds {
					if y, e := x.Add(s+rest, node(k)); e != api.ErrClash || !same(y, was) {
						t.Errorf("Add(%q) below the kind %d: %v", s+rest, kind, e)
					}
				}
				if y, e := x.Link(s+rest, "g"); e != api.ErrClash || !same(y, was) {
					t.Errorf("Link(%q) below the kind %d: %v", s+rest, kind, e)
				}
			}
		}
	}
}

// P13.2: what may stand in the place of what, and with which number.
func TestAddInPlace(t *testing.T) {
	for _, was := range kinds {
		for _, now := range kinds {
			x := add(t, tree.Tree{}, "a", node(api.File))
			x = add(t, x, "d/b", tree.Node{Kind: was, Target: "x", Content: extent.Content{Ids: []int{3}, Size: 2}})
			n := tree.Node{Kind: now, Mode: 5, Uid: -1, Gid: 1 << 40, Mtime: -9, User: "u", Group: "g", Target: "t", Content: extent.Content{Ids: []int{1}, Size: 1}, Made: now == api.Dir}
			y, e := x.Add("d/b", n)
			if (was == api.Dir) != (now == api.Dir) {
				if e != api.ErrClash || !same(y, x) {
					t.Errorf("the kind %d in the place of %d: %v", now, was, e)
				}
				continue
			}
			id, next := 3, 4
			if now == api.Dir {
				id, next = 2, 3
			}
			if r := get(t, y, "d/b"); e != api.OK || y.Next != next || len(y.Rows) != 3 || !sameRow(r, tree.Row{Path: "d/b", ID: id, Node: n}) {
				t.Errorf("the kind %d in the place of %d: %v, %v", now, was, r, e)
			}
			if r := get(t, y, "a"); r.ID != 0 || !sameRow(r, x.Rows[0]) {
				t.Errorf("another row changed: %v", r)
			}
		}
	}
}

// P13.2: a directory that nobody named is named: it stays the one it is, and all that lies in it.
func TestAddMade(t *testing.T) {
	x := add(t, tree.Tree{}, "d/e/f", node(api.File))
	x = add(t, x, "d", node(api.Dir))
	check(t, x.Rows, "d 0d", "d/e 1m", "d/e/f 2f")
	if x.Next != 3 || get(t, x, "d").Mode != node(api.Dir).Mode {
		t.Errorf("the directory that is named: %v", get(t, x, "d"))
	}
}

// P13.2: the other names of a file stay that file, if one of them becomes another thing.
func TestAddInPlaceOfAName(t *testing.T) {
	x := sample(t)
	x = add(t, x, "g", tree.Node{Kind: api.File, Content: extent.Content{Ids: []int{9}, Size: 9}})
	if r := get(t, x, "d/f"); r.ID != 1 || r.Content.Size != 70 || x.Names(1) != 1 {
		t.Errorf("the other name: %v", r)
	}
	if r := get(t, x, "g"); r.ID != 7 || r.Content.Size != 9 || x.Next != 8 {
		t.Errorf("the new file: %v", r)
	}
}

// P13.2: the root isn't added, whatever the thing is.
func TestAddRoot(t *testing.T) {
	for _, x := range []tree.Tree{{}, sample(t)} {
		for _, kind := range []int{0, api.File, api.Hard, api.Soft, api.Dir, -1} {
			if y, e := x.Add("", node(kind)); e != api.ErrEmpty || !same(y, x) {
				t.Errorf("Add at the root of the kind %d: %v", kind, e)
			}
		}
		for _, to := range []string{"", "d", "d/f", "nix"} {
			if y, e := x.Link("", to); e != api.ErrEmpty || !same(y, x) {
				t.Errorf("Link(\"\", %q): %v", to, e)
			}
		}
	}
}

// P13.2: a second name has the file's number and all its fields, in the place of what was there.
func TestLink(t *testing.T) {
	x := sample(t)
	want := get(t, x, "d/f")
	for _, s := range []string{"a", "d/a", "d/s", "m/d/f", "s", "z"} {
		y := link(t, x, s, "d/f")
		want.Path = s
		if r := get(t, y, s); !sameRow(r, want) || y.Names(1) != 3 || y.Next != x.Next {
			t.Errorf("Link(%q): %v", s, r)
		}
	}
	y := link(t, x, "n/e/w", "g")
	if r := get(t, y, "n/e/w"); r.ID != 1 || r.Content.Size != 70 || y.Next != x.Next+2 {
		t.Errorf("Link by the second name: %v", r)
	}
}

// P13.2: a name of itself, or of the file whose name it is already, changes nothing.
func TestLinkItself(t *testing.T) {
	x := sample(t)
	for _, l := range [][2]string{{"d/f", "d/f"}, {"g", "d/f"}, {"d/f", "g"}} {
		if y := link(t, x, l[0], l[1]); !same(y, x) {
			t.Errorf("Link(%q, %q)", l[0], l[1])
		}
	}
}

// P13.2: which of Link's errors is told.
func TestLinkErrors(t *testing.T) {
	x := sample(t)
	for _, c := range []struct {
		s, to string
		want  api.Errno
	}{
		{"a", "nix", api.ErrMissing}, {"a", "d/nix", api.ErrMissing}, {"a", "d/f/nix", api.ErrMissing},
		{"a", "", api.ErrMissing},      // the root has no row
		{"a/b", "a", api.ErrMissing},   // ahead of the parents
		{"d", "nix", api.ErrMissing},   // though a Dir stands there
		{"g/h", "nix", api.ErrMissing}, // though a parent is no Dir
		{"a", "d", api.ErrClash}, {"a", "m", api.ErrClash}, {"a", "s", api.ErrClash}, {"a", "d/s", api.ErrClash},
		{"d", "g", api.ErrClash}, {"m", "g", api.ErrClash}, {"m/d", "g", api.ErrClash},
		{"d", "d/f", api.ErrClash}, {"d", "d", api.ErrClash}, {"s", "s", api.ErrClash},
		{"g/h", "g", api.ErrClash}, {"g/h/i", "d/f", api.ErrClash}, {"s/h", "g", api.ErrClash},
	} {
		if y, e := x.Link(c.s, c.to); e != c.want || !same(y, x) {
			t.Errorf("Link(%q, %q): %v, not %v", c.s, c.to, e, c.want)
		}
	}
}

// P13.3: Put looks at nothing but the path.
func TestPut(t *testing.T) {
	x := sample(t)
	n := tree.Node{Kind: api.Soft, Mode: -1, Uid: 1, Target: "t", Made: true}
	y := x.Put(tree.Row{Path: "d/g", ID: 99, Node: n})
	check(t, y.Rows, "d 0d", "d/f 1f", "d/g 99m", "d/s 2s", "g 1f", "m 3m", "m/d 4m", "m/d/f 5f", "s 6s")
	if r := get(t, y, "d/g"); !reflect.DeepEqual(r, tree.Row{Path: "d/g", ID: 99, Node: n}) || y.Next != x.Next {
		t.Errorf("Put: %v, Next %d", r, y.Next)
	}
	for i, r := range x.Rows {
		r.ID, r.Node = -i, n
		y := x.Put(r)
		want := deep(x)
		want.Rows[i] = r
		if !same(y, want) {
			t.Errorf("Put in the place of %q: %q", r.Path, lines(y.Rows))
		}
	}
	z := tree.Tree{}.Put(tree.Row{Path: "x", ID: 5, Node: node(api.Dir)}).Put(tree.Row{Path: "x/y", ID: 3, Node: node(api.File)})
	check(t, z.Rows, "x 5d", "x/y 3f")
	if z.Next != 0 {
		t.Errorf("Next %d", z.Next)
	}
	check(t, tree.Tree{}.Put(tree.Row{Path: "a/b/c", ID: 1, Node: node(api.File)}).Rows, "a/b/c 1f")
}

// P13.3: Set reaches all names of a file, and nothing else.
func TestSet(t *testing.T) {
	x := sample(t)
	c := extent.Content{Ids: []int{7, 8, 9}, Size: 130}
	y := x.Set(1, c)
	want := deep(x)
	want.Rows[1].Content, want.Rows[3].Content = c, c
	if !same(y, want) {
		t.Errorf("Set: %v", y)
	}
	for _, id := range []int{0, 2, 3, 4, 6, 7, -1, math.MaxInt, math.MinInt} {
		if y := x.Set(id, c); !same(y, x) {
			t.Errorf("Set of %d, which is no file", id)
		}
	}
	if y := x.Set(5, extent.Content{}); !same(y, x) {
		t.Error("Set of no bytes")
	}
	z := y.Set(1, extent.Content{})
	if get(t, z, "g").Content.Size != 0 || get(t, z, "d/f").Content.Ids != nil {
		t.Error("Set back to no bytes")
	}
	// A number that a File and others bear: the File alone has a Content.
	w := tree.Tree{}.Put(tree.Row{Path: "a", ID: 1, Node: node(api.File)}).Put(tree.Row{Path: "b", ID: 1, Node: node(api.Soft)}).Put(tree.Row{Path: "c", ID: 1, Node: node(api.Dir)})
	w = w.Set(1, c)
	if !sameContent(w.Rows[0].Content, c) || w.Rows[1].Content.Size != 0 || w.Rows[2].Content.Size != 0 {
		t.Error("Set of what is no File")
	}
}

// P13.3: Cut takes what lies Under a path, and Next stays.
func TestCut(t *testing.T) {
	x := add(t, sample(t), "d!", node(api.File))
	x = add(t, x, "dd", node(api.Dir))
	x = add(t, x, "dd/f", node(api.File))
	all := lines(x.Rows)
	for _, c := range []struct {
		s    string
		gone []string
	}{
		{"d", []string{"d 0d", "d/f 1f", "d/s 2s"}},
		{"d/f", []string{"d/f 1f"}}, {"g", []string{"g 1f"}}, {"s", []string{"s 6s"}},
		{"m", []string{"m 3m", "m/d 4m", "m/d/f 5f"}}, {"m/d", []string{"m/d 4m", "m/d/f 5f"}},
		{"", all},
	} {
		y := cut(t, x, c.s)
		want := slices.DeleteFunc(slices.Clone(all), func(l string) bool { return slices.Contains(c.gone, l) })
		check(t, y.Rows, want...)
		if y.Next != x.Next {
			t.Errorf("Cut(%q): Next %d", c.s, y.Next)
		}
	}
	for _, s := range []string{"a", "d/", "d/nix", "d/f/g", "nix/d", "mm"} {
		if y, e := x.Cut(s); e != api.ErrMissing || y.Rows != nil || y.Next != 0 {
			t.Errorf("Cut(%q): %v", s, e)
		}
	}
	check(t, x.Rows, all...)
}

// P13.3: behind a Cut numbers go on, so that none is given twice.
func TestCutAndAdd(t *testing.T) {
	x := cut(t, sample(t), "")
	x = add(t, x, "d/f", node(api.File))
	check(t, x.Rows, "d 7m", "d/f 8f")
}

// P13.4: Sub of each kind, of the root, and of what isn't there.
func TestSub(t *testing.T) {
	x := add(t, sample(t), "d!", node(api.File))
	x = add(t, x, "e", node(api.Dir))
	for _, c := range []struct {
		s    string
		want []string
	}{
		{"", lines(x.Rows)},
		{"d", []string{"d/f 1f", "d/s 2s"}},
		{"m", []string{"m/d 4m", "m/d/f 5f"}},
		{"m/d", []string{"m/d/f 5f"}},
		{"e", nil},
		{"d/f", []string{"d/f 1f"}}, {"d/s", []string{"d/s 2s"}}, {"g", []string{"g 1f"}}, {"s", []string{"s 6s"}},
	} {
		rows, e := x.Sub(c.s)
		if e != api.OK {
			t.Errorf("Sub(%q): %v", c.s, e)
		}
		check(t, rows, c.want...)
		for _, r := range rows {
			if !sameRow(r, get(t, x, r.Path)) {
				t.Errorf("Sub(%q): the row %v", c.s, r)
			}
		}
	}
	for _, s := range []string{"a", "d/", "d/nix", "d/f/g", "s/f", "mm"} {
		if rows, e := x.Sub(s); e != api.ErrMissing || len(rows) != 0 {
			t.Errorf("Sub(%q): %v, %v", s, rows, e)
		}
	}
}

// P13.4: List has what lies in a directory itself.
func TestList(t *testing.T) {
	x := add(t, sample(t), "d!", node(api.File))
	x = add(t, x, "e", node(api.Dir))
	for _, c := range []struct {
		s    string
		want []string
	}{
		{"", []string{"d 0d", "d! 7f", "e 8d", "g 1f", "m 3m", "s 6s"}},
		{"d", []string{"d/f 1f", "d/s 2s"}},
		{"m", []string{"m/d 4m"}},
		{"m/d", []string{"m/d/f 5f"}},
		{"e", nil},
	} {
		rows, e := x.List(c.s)
		if e != api.OK {
			t.Errorf("List(%q): %v", c.s, e)
		}
		check(t, rows, c.want...)
		for _, r := range rows {
			if !sameRow(r, get(t, x, r.Path)) {
				t.Errorf("List(%q): the row %v", c.s, r)
			}
		}
	}
	for _, s := range []string{"d/f", "d/s", "g", "s", "m/d/f"} {
		if rows, e := x.List(s); e != api.ErrClash || len(rows) != 0 {
			t.Errorf("List(%q): %v, %v", s, rows, e)
		}
	}
	for _, s := range []string{"a", "d/", "d/nix", "d/f/g", "s/f", "mm"} {
		if rows, e := x.List(s); e != api.ErrMissing || len(rows) != 0 {
			t.Errorf("List(%q): %v, %v", s, rows, e)
		}
	}
}

// P13.4: Names counts rows of every kind.
func TestNames(t *testing.T) {
	x := sample(t)
	for id, want := range map[int]int{0: 1, 1: 2, 2: 1, 3: 1, 5: 1, 6: 1, 7: 0, -1: 0, math.MaxInt: 0, math.MinInt: 0} {
		if n := x.Names(id); n != want {
			t.Errorf("Names(%d): %d", id, n)
		}
	}
	if n := cut(t, x, "d").Names(1); n != 1 {
		t.Errorf("Names of the file whose first name is gone: %d", n)
	}
	if n := link(t, link(t, x, "x/y", "g"), "s", "g").Names(1); n != 4 {
		t.Errorf("Names of a file of four: %d", n)
	}
}

// P13.4: Contents has each File once, and nothing of others.
func TestContents(t *testing.T) {
	x := sample(t)
	x = x.Put(tree.Row{Path: "t", ID: 7, Node: tree.Node{Kind: api.Soft, Content: extent.Content{Ids: []int{1}, Size: 1}}})
	x = x.Put(tree.Row{Path: "u", ID: 8, Node: tree.Node{Kind: api.Dir, Content: extent.Content{Ids: []int{1}, Size: 1}}})
	want := map[int]extent.Content{1: {Ids: []int{4, 2}, Size: 70}, 5: {}}
	if got := x.Contents(); !maps.EqualFunc(got, want, sameContent) {
		t.Errorf("Contents: %v", got)
	}
	if got := cut(t, x, "d").Contents(); !maps.EqualFunc(got, want, sameContent) {
		t.Errorf("Contents of a file whose first name is gone: %v", got)
	}
	if got := cut(t, cut(t, x, "d"), "g").Contents(); len(got) != 1 {
		t.Errorf("Contents of a file without names: %v", got)
	}
}

// model is a tree as a map of its paths: the promises written out once more.
type model struct {
	rows map[string]tree.Row
	next int
}

func ancestors(s string) []string {
	parts, out := strings.Split(s, "/"), []string{}
	for i := 1; i < len(parts); i++ {
		out = append(out, strings.Join(parts[:i], "/"))
	}
	return out
}

func (m *model) parents(s string) api.Errno {
	for _, p := range ancestors(s) {
		if r, ok := m.rows[p]; ok && r.Kind != api.Dir {
			return api.ErrClash
		}
	}
	for _, p := range ancestors(s) {
		if _, ok := m.rows[p]; !ok {
			m.rows[p] = made(p, m.next)
			m.next++
		}
	}
	return api.OK
}

func (m *model) add(s string, n tree.Node) api.Errno {
	was, ok := m.rows[s]
	if s == "" {
		return api.ErrEmpty
	}
	if ok && (was.Kind == api.Dir) != (n.Kind == api.Dir) {
		return api.ErrClash
	}
	if e := m.parents(s); e != api.OK {
		return e
	}
	r := tree.Row{Path: s, ID: was.ID, Node: n}
	if !ok || n.Kind != api.Dir {
		r.ID = m.next
		m.next++
	}
	m.rows[s] = r
	return api.OK
}

func (m *model) link(s, to string) api.Errno {
	was := m.rows[s]
	r, ok := m.rows[to]
	switch {
	case s == "":
		return api.ErrEmpty
	case !ok:
		return api.ErrMissing
	case r.Kind != api.File || was.Kind == api.Dir:
		return api.ErrClash
	}
	if e := m.parents(s); e != api.OK {
		return e
	}
	r.Path = s
	m.rows[s] = r
	return api.OK
}

func (m *model) set(id int, c extent.Content) {
	for s, r := range m.rows {
		if r.ID == id && r.Kind == api.File {
			r.Content = c
			m.rows[s] = r
		}
	}
}

func (m *model) cut(s string) api.Errno {
	if _, ok := m.rows[s]; !ok && s != "" {
		return api.ErrMissing
	}
	maps.DeleteFunc(m.rows, func(p string, _ tree.Row) bool {
		return s == "" || p == s || strings.HasPrefix(p, s+"/")
	})
	return api.OK
}

// list is the rows of which a question holds, in the order of their parts.
func (m *model) list(asked func(tree.Row) bool) []tree.Row {
	out := []tree.Row{}
	for _, r := range m.rows {
		if asked(r) {
			out = append(out, r)
		}
	}
	slices.SortFunc(out, func(a, b tree.Row) int {
		return slices.Compare(strings.Split(a.Path, "/"), strings.Split(b.Path, "/"))
	})
	return out
}

func (m *model) sub(s string, itself bool) ([]tree.Row, api.Errno) {
	r, ok := m.rows[s]
	if !ok && s != "" {
		return nil, api.ErrMissing
	}
	if ok && r.Kind != api.Dir && itself {
		return nil, api.ErrClash
	}
	if ok && r.Kind != api.Dir {
		return []tree.Row{r}, api.OK
	}
	return m.list(func(r tree.Row) bool {
		rest, in := strings.CutPrefix("/"+r.Path, strings.TrimSuffix("/"+s, "/")+"/")
		return in && !(itself && strings.Contains(rest, "/"))
	}), api.OK
}

func (m *model) names(id int) int {
	return len(m.list(func(r tree.Row) bool { return r.ID == id }))
}

func (m *model) contents() map[int]extent.Content {
	out := map[int]extent.Content{}
	for _, r := range m.list(func(r tree.Row) bool { return r.Kind == api.File }) {
		out[r.ID] = r.Content
	}
	return out
}

func (m *model) tree() tree.Tree {
	return tree.Tree{Rows: m.list(func(tree.Row) bool { return true }), Next: m.next}
}

// somePath: few paths, of which many lie in one another, with bytes on both sides of a slash.
func somePath(r *rand.Rand) string {
	words := []string{"a", "a!", "a.", "ab", "b", "é", "0"}
	parts := []string{}
	for range 1 + r.Intn(4) {
		parts = append(parts, words[r.Intn(2+r.Intn(len(words)-1))])
	}
	if r.Intn(30) == 0 {
		return ""
	}
	return strings.Join(parts, "/")
}

func someContent(r *rand.Rand) extent.Content {
	c := extent.Content{Size: r.Intn(200)}
	for range r.Intn(4) {
		c.Ids = append(c.Ids, r.Intn(100))
	}
	return c
}

func someNode(r *rand.Rand) tree.Node {
	n := tree.Node{Kind: kinds[r.Intn(len(kinds))], Mode: r.Intn(512), Uid: r.Int63(), Gid: -r.Int63(), Mtime: r.Int63(), User: "u" + strconv.Itoa(r.Intn(9)), Group: "g" + strconv.Itoa(r.Intn(9))}
	switch n.Kind {
	case api.File:
		n.Content = someContent(r)
	case api.Soft:
		n.Target = somePath(r)
	case api.Dir:
		n.Made = r.Intn(4) == 0
	}
	return n
}

// step does one thing to the tree and to the model, and answers whether the same came of it.
func step(r *rand.Rand, x tree.Tree, m *model) (tree.Tree, bool) {
	s, to := somePath(r), somePath(r)
	var e, want api.Errno
	y := x
	switch r.Intn(12) {
	case 0:
		id, c := r.Intn(x.Next+1), someContent(r)
		y = x.Set(id, c)
		m.set(id, c)
	case 1:
		if r.Intn(4) > 0 {
			return x, true // seldom: trees are to grow
		}
		want = m.cut(s)
		if y, e = x.Cut(s); e != api.OK {
			return x, e == want && same(y, tree.Tree{})
		}
	case 2: // a row in the place of one of the same kind leaves all in directories
		row, ok := m.rows[s]
		if !ok {
			return x, true
		}
		kind := row.Kind
		row.ID, row.Node = r.Intn(x.Next), someNode(r)
		row.Kind = kind
		if kind == api.File { // one number is one file
			row.ID, row.Content = m.rows[s].ID, m.rows[s].Content
		}
		y = x.Put(row)
		m.rows[s] = row
	case 3, 4, 5:
		if files := m.list(func(r tree.Row) bool { return r.Kind == api.File }); len(files) > 0 && r.Intn(4) > 0 {
			to = files[r.Intn(len(files))].Path
		}
		y, e = x.Link(s, to)
		want = m.link(s, to)
	default:
		n := someNode(r)
		y, e = x.Add(s, n)
		want = m.add(s, n)
	}
	return y, e == want
}

// agree: whether all that can be asked of a tree is what the model says.
func agree(t *testing.T, r *rand.Rand, x tree.Tree, m *model) {
	t.Helper()
	if want := m.tree(); !same(x, want) {
		t.Fatalf("the tree %q %d, not %q %d", lines(x.Rows), x.Next, lines(want.Rows), want.Next)
	}
	for range 4 {
		s := somePath(r)
		row, ok := x.Get(s)
		if want, there := m.rows[s]; ok != there || !sameRow(row, want) {
			t.Fatalf("Get(%q): %v", s, row)
		}
		rows, e := x.Sub(s)
		if want, we := m.sub(s, false); e != we || !sameRows(rows, want) {
			t.Fatalf("Sub(%q): %q, %v", s, lines(rows), e)
		}
		rows, e = x.List(s)
		if want, we := m.sub(s, true); e != we || !sameRows(rows, want) {
			t.Fatalf("List(%q): %q, %v", s, lines(rows), e)
		}
		if id := r.Intn(x.Next + 2); x.Names(id) != m.names(id) {
			t.Fatalf("Names(%d): %d", id, x.Names(id))
		}
	}
	if got := x.Contents(); !maps.EqualFunc(got, m.contents(), sameContent) {
		t.Fatalf("Contents: %v", got)
	}
}

// All promises, against the model; and each tree stays as it is, whatever is made of it (P2).
func TestRandom(t *testing.T) {
	for seed := range int64(400) {
		r := rand.New(rand.NewSource(seed))
		m := &model{rows: map[string]tree.Row{}}
		var x tree.Tree
		var trees, copies []tree.Tree
		for range 60 {
			trees, copies = append(trees, x), append(copies, deep(x))
			y, ok := step(r, x, m)
			if !ok {
				t.Fatalf("seed %d: another error than the model's", seed)
			}
			agree(t, r, y, m)
			x = y
		}
		for i := range trees {
			if !reflect.DeepEqual(trees[i], copies[i]) {
				t.Fatalf("seed %d: the tree %d has changed", seed, i)
			}
		}
	}
}

// Two trees made of one don't see each other (P2).
func TestFork(t *testing.T) {
	x := sample(t)
	calls := []func(string) tree.Tree{
		func(s string) tree.Tree { return add(t, x, s, node(api.File)) },
		func(s string) tree.Tree { return link(t, x, s, "g") },
		func(s string) tree.Tree { return x.Put(tree.Row{Path: s, ID: 50, Node: node(api.Soft)}) },
		func(s string) tree.Tree { return x.Set(1, extent.Content{Size: len(s)}) },
		func(s string) tree.Tree { return cut(t, x, "d/s") },
	}
	was := deep(x)
	for _, a := range calls {
		for _, b := range calls {
			y := a("zz")
			copied := deep(y)
			b("zzz")
			for range 3 {
				y, _ = y.Add("n/"+strconv.Itoa(y.Next), node(api.File))
			}
			if z := a("zz"); !same(z, copied) || !same(x, was) {
				t.Fatal("one tree sees what was made of another")
			}
		}
	}
}

// spoil overwrites all that a caller may overwrite in rows, their spare room too.
func spoil(rows []tree.Row) {
	rows = rows[:cap(rows)]
	for i := range rows {
		ids := rows[i].Content.Ids
		for j := range ids[:cap(ids)] {
			ids[:cap(ids)][j] = -77
		}
		rows[i] = tree.Row{Path: "spoilt", ID: -7, Node: tree.Node{Kind: api.Soft, Target: "spoilt"}}
	}
}

// P2: what is answered is the caller's: nothing that he does to it is seen in the tree.
func TestAnswersAreNew(t *testing.T) {
	x := sample(t).Set(5, extent.Content{Ids: []int{1, 2, 3}, Size: 190})
	was := deep(x)
	rowsOf := func() [][]tree.Row {
		out := [][]tree.Row{}
		for _, s := range []string{"", "d", "d/f", "m", "g"} {
			sub, _ := x.Sub(s)
			list, _ := x.List(s)
			row, _ := x.Get(s)
			out = append(out, sub, list, []tree.Row{row})
		}
		return out
	}
	first := rowsOf()
	for _, rows := range rowsOf() {
		spoil(rows)
	}
	for _, c := range x.Contents() {
		c.Ids = c.Ids[:cap(c.Ids)]
		for i := range c.Ids {
			c.Ids[i] = -77
		}
	}
	m := x.Contents()
	delete(m, 1)
	m[77] = extent.Content{}
	if !same(x, was) {
		t.Error("the tree has changed")
	}
	for i, rows := range rowsOf() {
		if !sameRows(rows, first[i]) {
			t.Errorf("the answer %d has changed", i)
		}
	}
	if got := x.Contents(); len(got) != 2 || !sameContent(got[1], was.Rows[1].Content) {
		t.Errorf("Contents has changed: %v", got)
	}
}

// P2: the lists of one answer are apart.
func TestAnswersAreApart(t *testing.T) {
	x := sample(t)
	for range 2 {
		rows, _ := x.Sub("")
		for i := range rows {
			was := deepRows(rows)
			ids := rows[i].Content.Ids
			for j := range ids {
				ids[j] = -1
			}
			rows[i].Content.Ids, was[i].Content.Ids = nil, nil
			if !sameRows(rows, was) {
				t.Error("two rows of Sub share their blocks' numbers")
			}
		}
	}
}

// P2: rows of trees that were answered may be overwritten, too: the trees they were made of don't see it, nor do those that were answered with an error.
func TestTreesAreApart(t *testing.T) {
	x := sample(t)
	was := deep(x)
	roomy := tree.Tree{Rows: append(make([]tree.Row, 0, 40), deep(x).Rows...), Next: x.Next}
	for _, base := range []tree.Tree{x, roomy} {
		answers := map[string]tree.Tree{}
		answers["Add"], _ = base.Add("z/z", node(api.File))
		answers["Add in place"], _ = base.Add("d", node(api.Dir))
		answers["Add at the root"], _ = base.Add("", node(api.Dir))
		answers["Add that clashes"], _ = base.Add("d", node(api.File))
		answers["Add below a file"], _ = base.Add("g/x", node(api.File))
		answers["Link"], _ = base.Link("z", "g")
		answers["Link at the root"], _ = base.Link("", "g")
		answers["Link to nothing"], _ = base.Link("z", "nix")
		answers["Link that clashes"], _ = base.Link("d", "g")
		answers["Link below a file"], _ = base.Link("g/x", "g")
		answers["Put"] = base.Put(tree.Row{Path: "z"})
		answers["Put in place"] = base.Put(tree.Row{Path: "s"})
		answers["Set"] = base.Set(1, extent.Content{Size: 4})
		answers["Set of nothing"] = base.Set(-1, extent.Content{Size: 4})
		answers["Cut"], _ = base.Cut("d")
		answers["Cut of all"], _ = base.Cut("")
		for name, y := range answers {
			rows := y.Rows[:cap(y.Rows)]
			for i := range rows {
				rows[i].Path, rows[i].Content = "spoilt", extent.Content{Size: -1}
			}
			if !same(base, was) {
				t.Fatalf("%s: the tree it was made of has changed", name)
			}
			for _, r := range base.Rows[:cap(base.Rows)][len(base.Rows):] {
				if !reflect.DeepEqual(r, tree.Row{}) {
					t.Fatalf("%s: the spare room of the tree it was made of has changed", name)
				}
			}
		}
	}
}

// P2: contents that are handed in are neither changed nor kept, their spare room neither.
func TestArgumentsAreNotKept(t *testing.T) {
	fresh := func() extent.Content { return extent.Content{Ids: append(make([]int, 0, 9), 6, 5), Size: 100} }
	x := sample(t)
	for name, call := range map[string]func(c extent.Content) (tree.Tree, string){
		"Add": func(c extent.Content) (tree.Tree, string) {
			return add(t, x, "z", tree.Node{Kind: api.File, Content: c}), "z"
		},
		"Put": func(c extent.Content) (tree.Tree, string) {
			return x.Put(tree.Row{Path: "z", ID: 99, Node: tree.Node{Kind: api.File, Content: c}}), "z"
		},
		"Set": func(c extent.Content) (tree.Tree, string) { return x.Set(1, c), "g" },
	} {
		c := fresh()
		y, s := call(c)
		if !sameContent(c, fresh()) || slices.ContainsFunc(c.Ids[2:9], func(id int) bool { return id != 0 }) {
			t.Errorf("%s: the content that was handed in has changed", name)
		}
		c.Ids[0] = -1
		for i := range c.Ids[:9] {
			c.Ids[:9][i] = -1
		}
		if got := get(t, y, s).Content; !sameContent(got, fresh()) {
			t.Errorf("%s: the content that was handed in is kept: %v", name, got)
		}
	}
}

// someText: any text, many of them no clean path.
func someText(r *rand.Rand) string {
	switch r.Intn(4) {
	case 0:
		return somePath(r)
	case 1:
		return strings.Repeat("/", r.Intn(4)) + somePath(r) + strings.Repeat("/", r.Intn(4))
	case 2:
		b := make([]byte, r.Intn(6))
		r.Read(b)
		return string(b)
	default:
		return []string{"..", ".", "/", "//", "a//b", "../a", "a/../b", "\x00", "\xff/\xfe", strings.Repeat("a/", 3000)}[r.Intn(10)]
	}
}

// P1: all arguments, and trees that no call answered: the calls end, and none panics.
func TestAnything(t *testing.T) {
	numbers := []int{0, 1, -1, 5, math.MaxInt, math.MinInt}
	for seed := range int64(3000) {
		r := rand.New(rand.NewSource(seed))
		number := func() int { return numbers[r.Intn(len(numbers))] }
		row := func() tree.Row {
			n := someNode(r)
			n.Kind, n.Mode, n.Content.Size = number(), number(), number()
			if r.Intn(2) == 0 {
				n.Kind = kinds[r.Intn(3)]
			}
			return tree.Row{Path: someText(r), ID: number(), Node: n}
		}
		x := tree.Tree{Next: number()}
		for range r.Intn(5) {
			x.Rows = append(x.Rows, row())
		}
		for range 6 {
			was := deep(x)
			s := someText(r)
			y := x
			x.Get(s)
			x.Sub(s)
			x.List(s)
			x.Names(number())
			x.Contents()
			switch r.Intn(5) {
			case 0:
				y, _ = x.Add(s, row().Node)
			case 1:
				y, _ = x.Link(s, someText(r))
			case 2:
				y = x.Put(row())
			case 3:
				y = x.Set(number(), someContent(r))
			default:
				y, _ = x.Cut(s)
			}
			if !reflect.DeepEqual(x, was) {
				t.Fatalf("seed %d: the tree has changed", seed)
			}
			x = y
		}
	}
}

// A row of the root may be put: then the calls still end, and the tree stays in order.
func TestRowOfTheRoot(t *testing.T) {
	for _, kind := range kinds {
		x := sample(t).Put(tree.Row{Path: "", ID: 9, Node: node(kind)})
		if r, ok := x.Get(""); !ok || r.ID != 9 || x.Rows[0].Path != "" {
			t.Errorf("the row of the root: %v", r)
		}
		x.Sub("")
		x.List("")
		x.Cut("")
	}
}

// A path of as many parts as can be: each directory is made once, and what is added beside it finds them.
func TestDeep(t *testing.T) {
	s := strings.Repeat("a/", 1999) + "a"
	x := add(t, tree.Tree{}, s, node(api.File))
	if len(x.Rows) != 2000 || x.Next != 2000 || x.Rows[1999].Path != s || x.Rows[1999].ID != 1999 {
		t.Fatalf("%d rows", len(x.Rows))
	}
	for i := range 300 {
		x = add(t, x, s[:len(s)-1]+"b"+strconv.Itoa(i), node(api.File))
	}
	for i := range 20 {
		x = add(t, x, strings.Repeat("b"+strconv.Itoa(i)+"/", 1000)+"a", node(api.File))
	}
	if len(x.Rows) != 2300+20*1001 || x.Next != len(x.Rows) {
		t.Fatalf("%d rows", len(x.Rows))
	}
	if rows, e := x.List(s[:len(s)-2]); e != api.OK || len(rows) != 301 {
		t.Errorf("List of the deepest: %d rows, %v", len(rows), e)
	}
}

// Many names of one great file: a name more costs no copy of where its bytes are.
func TestManyNames(t *testing.T) {
	c := extent.Content{Ids: make([]int, 16384), Size: extent.MaxSize}
	x := add(t, tree.Tree{}, "f", tree.Node{Kind: api.File, Content: c})
	var was, now runtime.MemStats
	runtime.ReadMemStats(&was)
	for i := range 100 {
		x = link(t, x, "d/"+strconv.Itoa(i), "f")
	}
	runtime.ReadMemStats(&now)
	if n := now.TotalAlloc - was.TotalAlloc; n > 100*8*16384/2 {
		t.Errorf("%d bytes for 100 names", n)
	}
	x = x.Set(0, c)
	if x.Names(0) != 101 || len(x.Contents()) != 1 || len(x.Rows) != 102 {
		t.Errorf("%d names", x.Names(0))
	}
}
