package pull_test

import (
	"archive/tar"
	"bytes"
	"io"
	"math"
	"math/rand"
	"reflect"
	"slices"
	"strconv"
	"strings"
	"testing"

	"pannier/api"
	"pannier/block"
	"pannier/emit"
	"pannier/extent"
	"pannier/path"
	"pannier/pull"
	"pannier/push"
	"pannier/quota"
	"pannier/stage"
	"pannier/tree"
)

func arena(t testing.TB, blocks int) *block.Arena {
	t.Helper()
	a, e := block.New(blocks)
	if e != api.OK {
		t.Fatalf("a store: %v", e)
	}
	return a
}

// text is n bytes by which a place among them is known.
func text(n int) string {
	var b strings.Builder
	for b.Len() < n {
		b.WriteString(strconv.Itoa(b.Len()) + ",")
	}
	return b.String()[:n]
}

func content(t testing.TB, a *block.Arena, s string) extent.Content {
	t.Helper()
	c, e := extent.Append(a, extent.Content{}, []byte(s))
	if e != api.OK {
		t.Fatalf("a content: %v", e)
	}
	return c
}

func add(t testing.TB, x tree.Tree, s string, n tree.Node) tree.Tree {
	t.Helper()
	out, e := x.Add(s, n)
	if e != api.OK {
		t.Fatalf("Add(%q) of the kind %d: %v", s, n.Kind, e)
	}
	return out
}

// file is a tree with a file of these bytes at a path.
func file(t testing.TB, a *block.Arena, x tree.Tree, s, data string) tree.Tree {
	t.Helper()
	return add(t, x, s, tree.Node{Kind: api.File, Mode: 0o644, Content: content(t, a, data)})
}

func link(t testing.TB, x tree.Tree, s, to string) tree.Tree {
	t.Helper()
	out, e := x.Link(s, to)
	if e != api.OK {
		t.Fatalf("Link(%q, %q): %v", s, to, e)
	}
	return out
}

func soft(to string) tree.Node { return tree.Node{Kind: api.Soft, Mode: 0o777, Target: to} }

func dir(mode int) tree.Node { return tree.Node{Kind: api.Dir, Mode: mode} }

func contentOf(t testing.TB, x tree.Tree, s string) extent.Content {
	t.Helper()
	r, ok := x.Get(s)
	if !ok {
		t.Fatalf("nothing at %q", s)
	}
	return r.Content
}

func open(t testing.TB, a *block.Arena, x tree.Tree, s string) *pull.Pull {
	t.Helper()
	p, e := pull.Open(a, x, s)
	if e != api.OK || p == nil {
		t.Fatalf("Open at %q: %v", s, e)
	}
	return p
}

// all is what is left of an archive, in pieces of n bytes, each of that length but the last one; Done behind that one, not ahead.
func all(t testing.TB, p *pull.Pull, n int) []byte {
	t.Helper()
	var out []byte
	for !p.Done() {
		b, e := p.Next(n)
		if e != api.OK || len(b) == 0 || len(b) > n || len(b) < n && !p.Done() {
			t.Fatalf("Next(%d): %d bytes, %v, Done %v", n, len(b), e, p.Done())
		}
		out = append(out, b...)
	}
	for range 2 {
		if b, e := p.Next(n); len(b) != 0 || e != api.OK || !p.Done() {
			t.Fatalf("behind the end: %d bytes, %v, Done %v", len(b), e, p.Done())
		}
	}
	return out
}

// archive is what stands at a path, as a whole.
func archive(t testing.TB, a *block.Arena, x tree.Tree, s string) []byte {
	t.Helper()
	p := open(t, a, x, s)
	defer p.Close()
	return all(t, p, pull.MaxPiece)
}

// thing is what layer 12 reads of one entry, its bytes taken together.
type thing struct {
	api.Entry
	data string
}

func things(t testing.TB, b []byte) []thing {
	t.Helper()
	var out []thing
	p := push.New()
	for _, ev := range p.Feed(b) {
		switch ev.Kind {
		case push.Begin:
			out = append(out, thing{Entry: ev.Entry})
		case push.Data:
			out[len(out)-1].data += string(ev.Data)
		}
	}
	if err := p.End(); err != nil || p.At() != len(b) {
		t.Fatalf("the archive ends at %d of %d: %v", p.At(), len(b), err)
	}
	return out
}

// names is the names of an archive, with a letter of their kinds, and what they point to.
func names(t testing.TB, b []byte) string {
	t.Helper()
	var out []string
	for _, x := range things(t, b) {
		s := " fhsd"[x.Kind:x.Kind+1] + ":" + x.Path
		if x.Link != "" {
			s += ">" + x.Link
		}
		out = append(out, s)
	}
	return strings.Join(out, " ")
}

func checkNames(t testing.TB, a *block.Arena, x tree.Tree, s, want string) {
	t.Helper()
	if got := names(t, archive(t, a, x, s)); got != want {
		t.Errorf("from %q on: %s, not %s", s, got, want)
	}
}

// model is the archive that P19.2 and P19.3 ask for, row by row.
func model(t testing.TB, a *block.Arena, x tree.Tree, s string) []byte {
	t.Helper()
	rows, e := x.Sub(s)
	if e != api.OK {
		t.Fatalf("Sub(%q): %v", s, e)
	}
	from := path.Parts(s)
	if len(rows) == 1 && rows[0].Path == s {
		from = from[:len(from)-1]
	}
	var out []byte
	for i, r := range rows {
		name := func(r tree.Row) string { return path.Join(path.Parts(r.Path)[len(from):]...) }
		entry := api.Entry{Path: name(r), Kind: r.Kind, Mode: r.Mode, Uid: r.Uid, Gid: r.Gid, Mtime: r.Mtime, User: r.User, Group: r.Group}
		var data []byte
		switch r.Kind {
		case api.Soft:
			entry.Link = r.Target
		case api.File:
			first := slices.IndexFunc(rows, func(o tree.Row) bool { return o.Kind == api.File && o.ID == r.ID })
			if first < i {
				entry.Kind, entry.Link = api.Hard, name(rows[first])
				break
			}
			entry.Size = int64(r.Content.Size)
			if data, e = extent.Read(a, r.Content, 0, r.Content.Size); e != api.OK {
				t.Fatalf("the bytes of %q: %v", r.Path, e)
			}
		}
		b, e := emit.Entry(entry)
		if e != api.OK {
			t.Fatalf("Entry of %+v: %v", entry, e)
		}
		out = slices.Concat(out, b, data, emit.Fill(int64(len(data))))
	}
	return append(out, make([]byte, 1024)...)
}

// holds is how often each block of a store is held.
func holds(a *block.Arena) []int {
	out := make([]int, a.Len())
	for i := range out {
		out[i] = a.Holds(i)
	}
	return out
}

// sample has each kind, names of one file inside and outside of d, directories that were named and that weren't, and what doesn't fit into headers.
func sample(t testing.TB, a *block.Arena) tree.Tree {
	t.Helper()
	x := add(t, tree.Tree{}, "d", dir(0o700))
	x = add(t, x, "d/f", tree.Node{Kind: api.File, Mode: 0o4640, Uid: 1000, Gid: 100, Mtime: 1234567890, User: "user", Group: "group", Content: content(t, a, text(700))})
	x = file(t, a, x, "d/m/n/e", "")
	x = add(t, x, "d/s", tree.Node{Kind: api.Soft, Mode: 0o777, Uid: 3, Gid: 4, Mtime: -5, User: "v", Group: "h", Target: "m/../f"})
	x = link(t, x, "d/m/h", "d/f")
	x = link(t, x, "a", "d/f")
	x = link(t, x, "z", "d/m/n/e")
	x = file(t, a, x, "d-x", text(512))
	x = file(t, a, x, "dd/"+strings.Repeat("n", 200), text(64))
	return add(t, x, "dd/l", tree.Node{Kind: api.Dir, Mode: 1, Uid: 1 << 40, Gid: 1 << 41, Mtime: 1 << 42, User: strings.Repeat("u", 40), Group: strings.Repeat("g", 50)})
}

// The chapter's example.
func TestExample(t *testing.T) {
	a := arena(t, 4)
	x := file(t, a, tree.Tree{}, "d/a", "hi")
	b := archive(t, a, x, "d")
	head, _ := emit.Entry(api.Entry{Path: "a", Kind: api.File, Mode: 0o644, Size: 2})
	if want := slices.Concat(head, []byte("hi"), make([]byte, 510+1024)); !bytes.Equal(b, want) || len(b) != 2048 {
		t.Errorf("%d bytes: %q", len(b), b)
	}
}

// The document's limit.
func TestMaxPiece(t *testing.T) {
	if pull.MaxPiece != 65536 {
		t.Errorf("MaxPiece: %d", pull.MaxPiece)
	}
}

// P19.2: names from each directory on, and of what is none.
func TestNames(t *testing.T) {
	a := arena(t, 64)
	x := sample(t, a)
	long := strings.Repeat("n", 200)
	checkNames(t, a, x, "", "f:a d:d h:d/f>a d:d/m h:d/m/h>a d:d/m/n f:d/m/n/e s:d/s>m/../f f:d-x d:dd d:dd/l f:dd/"+long+" h:z>d/m/n/e")
	checkNames(t, a, x, "d", "f:f d:m h:m/h>f d:m/n f:m/n/e s:s>m/../f")
	checkNames(t, a, x, "d/m", "f:h d:n f:n/e")
	checkNames(t, a, x, "d/m/n", "f:e")
	checkNames(t, a, x, "dd", "d:l f:"+long)
	checkNames(t, a, x, "dd/l", "")
	checkNames(t, a, x, "a", "f:a")
	checkNames(t, a, x, "d-x", "f:d-x")
	checkNames(t, a, x, "d/f", "f:f")
	checkNames(t, a, x, "d/s", "s:s>m/../f")
	checkNames(t, a, x, "d/m/n/e", "f:e")
	checkNames(t, a, x, "dd/"+long, "f:"+long)
}

// P19.2: only what stands ahead is left out, not what looks like it further behind.
func TestNamesAlike(t *testing.T) {
	a := arena(t, 8)
	x := file(t, a, tree.Tree{}, "d/d/d", "1")
	x = add(t, x, "d/d/e", soft("d/d"))
	x = file(t, a, x, "d/dd", "2")
	checkNames(t, a, x, "", "d:d d:d/d f:d/d/d s:d/d/e>d/d f:d/dd")
	checkNames(t, a, x, "d", "d:d f:d/d s:d/e>d/d f:dd")
	checkNames(t, a, x, "d/d", "f:d s:e>d/d")
	checkNames(t, a, x, "d/d/d", "f:d")
	checkNames(t, a, x, "d/d/e", "s:e>d/d")
}

// P19.3: the fields of each kind.
func TestFields(t *testing.T) {
	a := arena(t, 64)
	list := things(t, archive(t, a, sample(t, a), "d"))
	want := []thing{
		{api.Entry{Path: "f", Kind: api.File, Mode: 0o4640, Uid: 1000, Gid: 100, Mtime: 1234567890, Size: 700, User: "user", Group: "group"}, text(700)},
		{api.Entry{Path: "m", Kind: api.Dir, Mode: 0o755}, ""},
		{api.Entry{Path: "m/h", Link: "f", Kind: api.Hard, Mode: 0o4640, Uid: 1000, Gid: 100, Mtime: 1234567890, User: "user", Group: "group"}, ""},
		{api.Entry{Path: "m/n", Kind: api.Dir, Mode: 0o755}, ""},
		{api.Entry{Path: "m/n/e", Kind: api.File, Mode: 0o644}, ""},
		{api.Entry{Path: "s", Link: "m/../f", Kind: api.Soft, Mode: 0o777, Uid: 3, Gid: 4, Mtime: -5, User: "v", Group: "h"}, ""},
	}
	if !slices.Equal(list, want) {
		t.Errorf("%+v, not\n%+v", list, want)
	}
	list = things(t, archive(t, a, sample(t, a), "dd"))
	if e := (api.Entry{Path: "l", Kind: api.Dir, Mode: 1, Uid: 1 << 40, Gid: 1 << 41, Mtime: 1 << 42, User: strings.Repeat("u", 40), Group: strings.Repeat("g", 50)}); list[0].Entry != e {
		t.Errorf("%+v, not %+v", list[0], e)
	}
}

// P19.3: a Target of what isn't a Soft, and a Content of what isn't a File, have no meaning.
func TestNoMeaning(t *testing.T) {
	a := arena(t, 4)
	c := content(t, a, text(70))
	was := holds(a)
	x := add(t, tree.Tree{}, "d", tree.Node{Kind: api.Dir, Target: "t", Content: c})
	x = add(t, x, "d/s", tree.Node{Kind: api.Soft, Target: "t", Content: c})
	x = add(t, x, "f", tree.Node{Kind: api.File, Target: "t"})
	p := open(t, a, x, "")
	if got := holds(a); !slices.Equal(got, was) {
		t.Errorf("blocks are held: %v, not %v", got, was)
	}
	if got := names(t, all(t, p, 512)); got != "d:d s:d/s>t f:f" {
		t.Errorf("names: %s", got)
	}
	p.Close()
	if got := holds(a); !slices.Equal(got, was) {
		t.Errorf("blocks are held: %v, not %v", got, was)
	}
}

// P19.3: files by many names: bytes once, behind the first name in order; names outside don't count.
func TestManyNames(t *testing.T) {
	a := arena(t, 8)
	x := file(t, a, tree.Tree{}, "m", "mm")
	x = file(t, a, x, "d/o", "oo")
	for _, s := range []string{"d/b", "z", "d/e/c", "d/y"} {
		x = link(t, x, s, "m")
	}
	x = link(t, x, "d/e/p", "d/o")
	checkNames(t, a, x, "", "d:d f:d/b d:d/e h:d/e/c>d/b f:d/e/p h:d/o>d/e/p h:d/y>d/b h:m>d/b h:z>d/b")
	checkNames(t, a, x, "d", "f:b d:e h:e/c>b f:e/p h:o>e/p h:y>b")
	checkNames(t, a, x, "d/e", "f:c f:p")
	checkNames(t, a, x, "z", "f:z")
	b := archive(t, a, x, "d")
	if len(b) != 512*(6+2)+1024 {
		t.Errorf("%d bytes", len(b))
	}
	if list := things(t, b); list[0].data != "mm" || list[3].data != "oo" {
		t.Errorf("the bytes: %+v", list)
	}
}

// P19.3: files of each length about the edges of blocks, those of the store and those of an archive.
func TestLengths(t *testing.T) {
	a := arena(t, 4000)
	var x tree.Tree
	for i, n := range []int{0, 1, 63, 64, 65, 511, 512, 513, 1023, 1024, 1025, 65535, 65536, 65537} {
		s := string(rune('a' + i))
		x = file(t, a, x, s, text(n))
		b := archive(t, a, x, s)
		list := things(t, b)
		if len(list) != 1 || list[0].data != text(n) || list[0].Size != int64(n) || len(b) != 512+(n+511)/512*512+1024 {
			t.Errorf("a file of %d bytes: %d in all, %.100v", n, len(b), list)
		}
		if !bytes.Equal(b[512+n:], make([]byte, len(b)-512-n)) {
			t.Errorf("a file of %d bytes isn't filled up with bytes 0", n)
		}
	}
	if b := archive(t, a, x, ""); !bytes.Equal(b, model(t, a, x, "")) {
		t.Errorf("all of them: %d bytes", len(b))
	}
}

// P19.3: of what has no rows the end alone.
func TestNothing(t *testing.T) {
	a := arena(t, 1)
	x := add(t, tree.Tree{}, "d", dir(0))
	for _, b := range [][]byte{archive(t, a, tree.Tree{}, ""), archive(t, a, x, "d")} {
		if !bytes.Equal(b, make([]byte, 1024)) {
			t.Errorf("%d bytes", len(b))
		}
	}
}

// P19.4: in whatever pieces it is asked for, it is the same, as the model says.
func TestPieces(t *testing.T) {
	a := arena(t, 64)
	x := sample(t, a)
	r := rand.New(rand.NewSource(19))
	for _, s := range []string{"", "d", "d/m", "d/f", "d/s", "dd"} {
		want := model(t, a, x, s)
		for _, n := range []int{1, 2, 7, 63, 64, 65, 511, 512, 513, 1024, 1025, 4096, len(want) - 1, len(want), len(want) + 1, pull.MaxPiece} {
			p := open(t, a, x, s)
			if b := all(t, p, n); !bytes.Equal(b, want) {
				t.Errorf("from %q on, in pieces of %d: %d bytes, not %d", s, n, len(b), len(want))
			}
			p.Close()
		}
		for range 50 {
			p := open(t, a, x, s)
			var b []byte
			for !p.Done() {
				piece, e := p.Next(1 + r.Intn(1<<r.Intn(14)))
				if e != api.OK {
					t.Fatalf("Next: %v", e)
				}
				b = append(b, piece...)
			}
			if !bytes.Equal(b, want) {
				t.Errorf("from %q on, in any pieces: %d bytes, not %d", s, len(b), len(want))
			}
			p.Close()
		}
	}
}

// P19.4: it is Done with its last byte, not one sooner.
func TestDone(t *testing.T) {
	a := arena(t, 4)
	x := file(t, a, tree.Tree{}, "a", "hi")
	p := open(t, a, x, "")
	for i := range 2048 {
		if p.Done() {
			t.Fatalf("Done ahead of byte %d", i)
		}
		if b, e := p.Next(1); len(b) != 1 || e != api.OK {
			t.Fatalf("byte %d: %q, %v", i, b, e)
		}
	}
	if !p.Done() {
		t.Error("not Done behind the last byte")
	}
	p.Close()
	if !p.Done() {
		t.Error("not Done when it is closed")
	}
	p = open(t, a, x, "")
	p.Close()
	if !p.Done() {
		t.Error("not Done when it is closed ahead of its end")
	}
}

// P19.4: how many bytes may be asked for; a refused call changes nothing.
func TestRange(t *testing.T) {
	a := arena(t, 64)
	x := sample(t, a)
	want := model(t, a, x, "")
	wrong := []int{0, -1, pull.MaxPiece + 1, math.MaxInt, math.MinInt}
	p := open(t, a, x, "")
	var b []byte
	for i := 0; !p.Done(); i++ {
		n := wrong[i%len(wrong)]
		if y, e := p.Next(n); e != api.ErrRange || len(y) != 0 {
			t.Fatalf("Next(%d): %d bytes, %v", n, len(y), e)
		}
		y, e := p.Next(300)
		if e != api.OK {
			t.Fatalf("Next: %v", e)
		}
		b = append(b, y...)
	}
	if !bytes.Equal(b, want) {
		t.Errorf("%d bytes, not %d", len(b), len(want))
	}
	for _, n := range wrong {
		if y, e := p.Next(n); e != api.ErrRange || len(y) != 0 {
			t.Errorf("Next(%d) behind the end: %d bytes, %v", n, len(y), e)
		}
	}
	p.Close()
	for _, n := range append(wrong, 1, pull.MaxPiece) {
		if y, e := p.Next(n); e != api.ErrState || len(y) != 0 {
			t.Errorf("Next(%d) when it is closed: %d bytes, %v", n, len(y), e)
		}
	}
}

// P19.4: the greatest piece, of an archive that is greater.
func TestGreatPiece(t *testing.T) {
	a := arena(t, 1<<14)
	x := file(t, a, tree.Tree{}, "a", text(extent.MaxSize))
	want := model(t, a, x, "")
	p := open(t, a, x, "")
	defer p.Close()
	for i := 0; i < len(want); i += pull.MaxPiece {
		b, e := p.Next(pull.MaxPiece)
		if e != api.OK || !bytes.Equal(b, want[i:min(len(want), i+pull.MaxPiece)]) {
			t.Fatalf("the piece at %d: %d bytes, %v", i, len(b), e)
		}
	}
	if !p.Done() {
		t.Error("not Done")
	}
}

// unwritable is nodes of which layer 18 has an error, by names.
func unwritable() map[string]struct {
	node tree.Node
	want api.Errno
} {
	return map[string]struct {
		node tree.Node
		want api.Errno
	}{
		"a mode below 0":   {tree.Node{Kind: api.File, Mode: -1}, api.ErrEntry},
		"a mode above":     {tree.Node{Kind: api.Dir, Mode: 0o10000}, api.ErrEntry},
		"a uid below 0":    {tree.Node{Kind: api.File, Uid: -1}, api.ErrEntry},
		"a gid below 0":    {tree.Node{Kind: api.Dir, Gid: -1}, api.ErrEntry},
		"no target":        {tree.Node{Kind: api.Soft}, api.ErrEntry},
		"a byte 0":         {tree.Node{Kind: api.Soft, Target: "a\x00"}, api.ErrEntry},
		"a user too long":  {tree.Node{Kind: api.File, User: text(5000)}, api.ErrLong},
		"a group too long": {tree.Node{Kind: api.Dir, Group: text(5000)}, api.ErrLong},
		"a long target":    {tree.Node{Kind: api.Soft, Target: text(5000)}, api.ErrLong},
		"no kind":          {tree.Node{}, api.ErrEntry},
		"a second name":    {tree.Node{Kind: api.Hard, Target: "a"}, api.ErrEntry},
	}
}

// P19.4: an entry that can't be written: all ahead of it is got, what reaches into it isn't, and that changes nothing.
func TestUnwritable(t *testing.T) {
	for name, c := range unwritable() {
		a := arena(t, 8)
		x := file(t, a, tree.Tree{}, "a", "hi")
		good := model(t, a, x, "")
		good = good[:len(good)-1024]
		x = add(t, x, "b", c.node)
		x = file(t, a, x, "c", "ho")
		for _, n := range []int{1, 10, 511, 512, 513, 1000, 1023, 1024} {
			p := open(t, a, x, "")
			var b []byte
			for len(b)+n <= len(good) {
				y, e := p.Next(n)
				if e != api.OK {
					t.Fatalf("%s, in pieces of %d: %v at %d", name, n, e, len(b))
				}
				b = append(b, y...)
			}
			for _, more := range []int{len(good) - len(b) + 1, n, pull.MaxPiece} {
				if more <= len(good)-len(b) {
					continue
				}
				if y, e := p.Next(more); e != c.want || len(y) != 0 || p.Done() {
					t.Errorf("%s, Next(%d) at %d: %d bytes, %v, Done %v", name, more, len(b), len(y), e, p.Done())
				}
			}
			if left := len(good) - len(b); left > 0 {
				y, e := p.Next(left)
				if e != api.OK {
					t.Errorf("%s, what is left ahead of it: %v", name, e)
				}
				b = append(b, y...)
			}
			if !bytes.Equal(b, good) {
				t.Errorf("%s, in pieces of %d: %q", name, n, b)
			}
			if y, e := p.Next(1); e != c.want || len(y) != 0 || p.Done() {
				t.Errorf("%s, Next(1): %d bytes, %v, Done %v", name, len(y), e, p.Done())
			}
			if _, e := p.Next(0); e != api.ErrRange {
				t.Errorf("%s, Next(0): %v", name, e)
			}
			p.Close()
			if _, e := p.Next(1); e != api.ErrState || !p.Done() {
				t.Errorf("%s, closed: %v", name, e)
			}
		}
		if a.Free() != 6 {
			t.Errorf("%s: %d blocks are free", name, a.Free())
		}
	}
}

// P19.1: Sub's error, and nothing is held.
func TestMissing(t *testing.T) {
	a := arena(t, 64)
	x := sample(t, a)
	was := holds(a)
	for _, s := range []string{"nix", "d/nix", "d/f/x", "a/b", "d/", "/", "/d", ".", "..", "d//f", "\x00", "dd/n", text(5000)} {
		if p, e := pull.Open(a, x, s); e != api.ErrMissing || p != nil {
			t.Errorf("Open at %q: %v, %v", s, p, e)
		}
	}
	if _, e := pull.Open(a, tree.Tree{}, "d"); e != api.ErrMissing {
		t.Errorf("Open in no rows: %v", e)
	}
	if got := holds(a); !slices.Equal(got, was) {
		t.Errorf("blocks are held: %v, not %v", got, was)
	}
}

// P19.1: Share's error, of a block that is held as often as can be: no block is held more.
func TestHeldTooOften(t *testing.T) {
	a := arena(t, 8)
	x := file(t, a, tree.Tree{}, "d/a", text(100))
	x = file(t, a, x, "d/b", text(200))
	x = file(t, a, x, "d/c", text(10))
	id := contentOf(t, x, "d/b").Ids[2]
	for a.Holds(id) < block.MaxHolds {
		if e := a.Hold(id); e != api.OK {
			t.Fatalf("Hold: %v", e)
		}
	}
	was := holds(a)
	for _, s := range []string{"", "d", "d/b"} {
		if p, e := pull.Open(a, x, s); e != api.ErrFull || p != nil {
			t.Errorf("Open at %q: %v, %v", s, p, e)
		}
		if got := holds(a); !slices.Equal(got, was) {
			t.Errorf("blocks are held: %v, not %v", got, was)
		}
	}
	a.Drop(id)
	p := open(t, a, x, "d")
	if got := holds(a); got[id] != block.MaxHolds {
		t.Errorf("the block is held %d times", got[id])
	}
	if _, e := pull.Open(a, x, "d"); e != api.ErrFull {
		t.Errorf("opened twice: %v", e)
	}
	p.Close()
}

// P19.1: contents that a store has no more: Share's error, and no block is held more.
func TestDropped(t *testing.T) {
	a := arena(t, 8)
	x := file(t, a, tree.Tree{}, "a", text(100))
	x = file(t, a, x, "b", text(100))
	x = file(t, a, x, "c", text(100))
	extent.Drop(a, contentOf(t, x, "b"))
	was := holds(a)
	if p, e := pull.Open(a, x, ""); e != api.ErrMissing || p != nil {
		t.Errorf("Open: %v, %v", p, e)
	}
	if got := holds(a); !slices.Equal(got, was) {
		t.Errorf("blocks are held: %v, not %v", got, was)
	}
	checkNames(t, a, x, "c", "f:c")
}

// P19.1 and P19.5: each content of the rows is held once more, by however many names, from Open to Close; others aren't.
func TestHolds(t *testing.T) {
	a := arena(t, 64)
	x := sample(t, a)
	was := holds(a)
	for _, s := range []string{"", "d", "d/m", "d/f", "d/s", "dd", "dd/l", "a"} {
		want := slices.Clone(was)
		rows, _ := x.Sub(s)
		seen := map[int]bool{}
		for _, r := range rows {
			if r.Kind != api.File || seen[r.ID] {
				continue
			}
			seen[r.ID] = true
			for _, id := range r.Content.Ids {
				want[id]++
			}
		}
		p := open(t, a, x, s)
		for !p.Done() {
			if got := holds(a); !slices.Equal(got, want) {
				t.Fatalf("from %q on: %v, not %v", s, got, want)
			}
			p.Next(500)
		}
		if got := holds(a); !slices.Equal(got, want) {
			t.Errorf("from %q on, Done: %v, not %v", s, got, want)
		}
		for range 3 {
			p.Close()
			if got := holds(a); !slices.Equal(got, was) {
				t.Errorf("from %q on, closed: %v, not %v", s, got, was)
			}
		}
	}
}

// P19.5: closed at any place.
func TestCloseAnywhere(t *testing.T) {
	a := arena(t, 64)
	x := sample(t, a)
	was := holds(a)
	for n := 0; n < 6000; n += 97 {
		p := open(t, a, x, "d")
		for range n / 97 {
			p.Next(97)
		}
		p.Close()
		p.Close()
		if got := holds(a); !slices.Equal(got, was) {
			t.Fatalf("closed at %d: %v, not %v", n, got, was)
		}
	}
}

// P19.5: closed once more nothing happens, though its blocks are others' by then.
func TestCloseOnceMore(t *testing.T) {
	a := arena(t, 2)
	x := file(t, a, tree.Tree{}, "a", text(100))
	p := open(t, a, x, "")
	extent.Drop(a, contentOf(t, x, "a"))
	p.Close()
	if a.Free() != 2 {
		t.Fatalf("%d blocks are free", a.Free())
	}
	content(t, a, text(128))
	p.Close()
	if a.Free() != 0 {
		t.Errorf("%d blocks are free", a.Free())
	}
}

// What stood there when it was opened is told, whatever happens to it since.
func TestAsItStood(t *testing.T) {
	for _, begun := range []int{0, 1, 512, 600, 1200, 3000} {
		a := arena(t, 64)
		x := file(t, a, tree.Tree{}, "d/a", text(100))
		x = file(t, a, x, "d/b", text(1000))
		x = file(t, a, x, "d/c", text(64))
		want := model(t, a, x, "d")
		p := open(t, a, x, "d")
		b := []byte(nil)
		if begun > 0 {
			b, _ = p.Next(begun)
		}
		longer, e := extent.Append(a, contentOf(t, x, "d/a"), []byte("more"))
		if e != api.OK {
			t.Fatalf("Append: %v", e)
		}
		extent.Drop(a, longer)
		extent.Drop(a, contentOf(t, x, "d/b"))
		y, _ := x.Cut("d/c")
		y = file(t, a, y, "d/c", "another")
		for i := range x.Rows { // the tree that was handed in isn't kept
			clear(x.Rows[i].Content.Ids)
			x.Rows[i] = tree.Row{Path: "spoilt"}
		}
		content(t, a, text(64*a.Free()))
		b = append(b, all(t, p, 333)...)
		if !bytes.Equal(b, want) {
			t.Errorf("begun at %d: %d bytes, not %d", begun, len(b), len(want))
		}
		p.Close()
		checkNames(t, a, y, "d/c", "f:c")
	}
}

// Archives that are written at the same time don't disturb each other.
func TestTwo(t *testing.T) {
	a := arena(t, 64)
	x := sample(t, a)
	was := holds(a)
	first, second := open(t, a, x, ""), open(t, a, x, "d")
	var b, c []byte
	for !first.Done() || !second.Done() {
		y, _ := first.Next(100)
		b = append(b, y...)
		y, _ = second.Next(70)
		c = append(c, y...)
	}
	first.Close()
	if y, e := second.Next(1); len(y) != 0 || e != api.OK {
		t.Errorf("the other one was closed: %v", e)
	}
	second.Close()
	if !bytes.Equal(b, model(t, a, x, "")) || !bytes.Equal(c, model(t, a, x, "d")) || !slices.Equal(holds(a), was) {
		t.Error("two archives at the same time")
	}
}

// P2: the tree that is handed in stays, and what is answered is new memory, its spare room too.
func TestMemory(t *testing.T) {
	a := arena(t, 64)
	x := sample(t, a)
	rows := slices.Clone(x.Rows)
	for i := range rows {
		rows[i].Content.Ids = slices.Clone(rows[i].Content.Ids)
	}
	want := model(t, a, x, "")
	for _, n := range []int{1, 100, 512, 700, 5000, pull.MaxPiece} {
		p := open(t, a, x, "")
		var b []byte
		for !p.Done() {
			y, e := p.Next(n)
			if e != api.OK {
				t.Fatalf("Next: %v", e)
			}
			b = append(b, y...)
			y = y[:cap(y)]
			for i := range y {
				y[i] = 'z'
			}
		}
		if !bytes.Equal(b, want) {
			t.Errorf("in pieces of %d, spoilt behind: %d bytes", n, len(b))
		}
		p.Close()
	}
	if !reflect.DeepEqual(x.Rows, rows) {
		t.Error("the tree has changed")
	}
}

// wide is the ledger of a tenant with limits that nothing here comes up to.
func wide(t testing.TB) quota.Ledger {
	t.Helper()
	q, e := quota.New(api.Limits{Bytes: 1 << 40, Inodes: 1 << 30, Depth: 1 << 20, Length: 1 << 20, Num: 1 << 31, Den: 1})
	if e != api.OK {
		t.Fatalf("limits: %v", e)
	}
	return q
}

// anyTree is a tree as uploads make it, of few names, so that things meet.
func anyTree(t testing.TB, r *rand.Rand, a *block.Arena) tree.Tree {
	t.Helper()
	var x tree.Tree
	part := func() string {
		return []string{"a", "b", "c", "a-", "é", strings.Repeat("l", 60+r.Intn(60))}[r.Intn(6)]
	}
	for range r.Intn(25) {
		s := part()
		for range r.Intn(4) {
			s += "/" + part()
		}
		n := tree.Node{Mode: r.Intn(0o10000), Uid: r.Int63() >> r.Intn(63), Gid: r.Int63() >> r.Intn(63), Mtime: r.Int63()>>r.Intn(63) - 100, User: text(r.Intn(40)), Group: text(r.Intn(40))}
		switch r.Intn(6) {
		case 0:
			n.Kind = api.Dir
		case 1:
			n.Kind, n.Target = api.Soft, text(1+r.Intn(120))
		case 2, 3:
			if len(x.Rows) > 0 {
				if y, e := x.Link(s, x.Rows[r.Intn(len(x.Rows))].Path); e == api.OK {
					x = y
				}
			}
			continue
		default:
			n.Kind, n.Content = api.File, content(t, a, text(r.Intn(1+r.Intn(1500))))
		}
		if y, e := x.Add(s, n); e == api.OK {
			x = y
		}
	}
	return x
}

// P19.3 and P19.4, of any trees at any paths, against the model.
func TestModel(t *testing.T) {
	r := rand.New(rand.NewSource(193))
	for range 400 {
		a := arena(t, 1000)
		x := anyTree(t, r, a)
		was := holds(a)
		places := []string{""}
		for _, row := range x.Rows {
			places = append(places, row.Path)
		}
		for _, s := range places {
			want := model(t, a, x, s)
			p := open(t, a, x, s)
			if b := all(t, p, 1+r.Intn(3000)); !bytes.Equal(b, want) {
				t.Fatalf("from %q on: %d bytes, not %d", s, len(b), len(want))
			}
			p.Close()
		}
		if got := holds(a); !slices.Equal(got, was) {
			t.Fatalf("blocks are held: %v, not %v", got, was)
		}
	}
}

// A whole tree, taken once more (layer 16), is the same: by its rows' fields and bytes, and by which are one file.
func TestTakenOnceMore(t *testing.T) {
	r := rand.New(rand.NewSource(16))
	for range 300 {
		a, other := arena(t, 1000), arena(t, 1000)
		x := anyTree(t, r, a)
		s := stage.New(other)
		if _, err := s.Feed(wide(t), archive(t, a, x, "")); err != nil {
			t.Fatalf("Feed: %v", err)
		}
		if err := s.End(); err != nil {
			t.Fatalf("End: %v", err)
		}
		if got, want := plain(t, other, s.Tree()), plain(t, a, x); !reflect.DeepEqual(got, want) {
			t.Fatalf("%+v, not\n%+v", got, want)
		}
	}
}

// plain is rows with bytes in the place of blocks, and with the first path of their file in the place of numbers.
func plain(t testing.TB, a *block.Arena, x tree.Tree) []map[string]any {
	t.Helper()
	first := map[int]string{}
	var out []map[string]any
	for _, r := range x.Rows {
		if _, ok := first[r.ID]; !ok {
			first[r.ID] = r.Path
		}
		b, e := extent.Read(a, r.Content, 0, r.Content.Size)
		if e != api.OK {
			t.Fatalf("the bytes of %q: %v", r.Path, e)
		}
		r.Content, r.Made = extent.Content{}, false // what was told is named
		out = append(out, map[string]any{"path": r.Path, "file": first[r.ID], "node": r.Node, "bytes": string(b)})
	}
	return out
}

// What is written is read by the library as it was meant.
func TestLibrary(t *testing.T) {
	types := map[byte]int{tar.TypeReg: api.File, tar.TypeLink: api.Hard, tar.TypeSymlink: api.Soft, tar.TypeDir: api.Dir}
	a := arena(t, 64)
	b := archive(t, a, sample(t, a), "")
	list := things(t, b)
	reader := tar.NewReader(bytes.NewReader(b))
	for _, want := range list {
		h, err := reader.Next()
		if err != nil {
			t.Fatal(err)
		}
		data, err := io.ReadAll(reader)
		if err != nil || h.Name != want.Path || h.Linkname != want.Link || types[h.Typeflag] != want.Kind || h.Mode != int64(want.Mode) ||
			int64(h.Uid) != want.Uid || int64(h.Gid) != want.Gid || h.ModTime.Unix() != want.Mtime || h.Uname != want.User || h.Gname != want.Group || string(data) != want.data {
			t.Errorf("%+v, not %+v", h, want)
		}
	}
	if _, err := reader.Next(); err != io.EOF {
		t.Errorf("behind the last: %v", err)
	}
}

// P1: nothing that is handed in makes a call panic, or go on for ever.
func TestAnything(t *testing.T) {
	r := rand.New(rand.NewSource(1))
	paths := []string{"", "/", "//", "a", "a/", "a//b", "/a", "..", "a/..", ".", "\x00", "\xff", "a/b", "b"}
	numbers := []int{0, 1, 2, -1, 63, 64, 65, extent.MaxSize + 1, math.MaxInt, math.MinInt}
	number := func() int { return numbers[r.Intn(len(numbers))] }
	for range 3000 {
		a := arena(t, 3)
		for range r.Intn(4) {
			a.Take()
		}
		var x tree.Tree
		for range r.Intn(5) {
			c := extent.Content{Size: number()}
			for range r.Intn(3) {
				c.Ids = append(c.Ids, r.Intn(5)-1)
			}
			n := tree.Node{Kind: r.Intn(7) - 1, Mode: r.Intn(3) * 2048, Uid: int64(number()), Mtime: int64(number()), Target: paths[r.Intn(len(paths))], Content: c}
			x = x.Put(tree.Row{Path: paths[r.Intn(len(paths))], ID: r.Intn(3), Node: n})
		}
		p, e := pull.Open(a, x, paths[r.Intn(len(paths))])
		if e != api.OK {
			continue
		}
		for range 20 {
			p.Next(1000)
			p.Next(number())
			p.Done()
		}
		p.Close()
		p.Next(number())
		p.Done()
		p.Close()
	}
}

// A tree of many rows, in small pieces.
func TestMuch(t *testing.T) {
	a := arena(t, 1<<14)
	var x tree.Tree
	for i := range 2000 {
		x = file(t, a, x, "d"+strconv.Itoa(i%50)+"/"+strconv.Itoa(i), text(400))
	}
	p := open(t, a, x, "")
	defer p.Close()
	if b := all(t, p, 10); len(b) != 50*512+2000*1024+1024 {
		t.Errorf("%d bytes", len(b))
	}
}
