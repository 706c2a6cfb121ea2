package stage_test

import (
	"archive/tar"
	"bytes"
	"maps"
	"math"
	"math/big"
	"math/rand"
	"reflect"
	"slices"
	"strings"
	"testing"
	"time"

	"pannier/api"
	"pannier/block"
	"pannier/extent"
	"pannier/fault"
	"pannier/head"
	"pannier/path"
	"pannier/pax"
	"pannier/push"
	"pannier/quota"
	"pannier/stage"
	"pannier/target"
	"pannier/tree"
	"pannier/usage"
)

const blockSize = 512

// wide are limits that nothing here comes up to.
var wide = api.Limits{Bytes: 1 << 40, Inodes: 1 << 30, Depth: 1 << 20, Length: 1 << 20, Num: 1 << 31, Den: 1}

// tight are limits with one number changed, or some.
func tight(change func(*api.Limits)) api.Limits {
	l := wide
	change(&l)
	return l
}

// put is bytes with a header behind them, and its bytes.
func put(b []byte, typ byte, name, link, data string) []byte {
	return putHeader(b, head.Header{Name: name, Link: link, Type: typ, Mode: 0o644}, data)
}

func putHeader(b []byte, h head.Header, data string) []byte {
	h.Size = int64(len(data))
	x, e := head.Encode(h)
	if e != api.OK {
		panic("a header that can't be written: " + h.Name)
	}
	b = slices.Concat(b, x, []byte(data))
	return append(b, bytes.Repeat([]byte{'z'}, (blockSize-len(b)%blockSize)%blockSize)...)
}

// records is bytes with records for the next entry behind them: pairs of a key and a value.
func records(b []byte, pairs ...string) []byte {
	var data []byte
	for i := 0; i+1 < len(pairs); i += 2 {
		x, e := pax.Encode(pax.Record{Key: pairs[i], Value: pairs[i+1]})
		if e != api.OK {
			panic("a record that can't be written: " + pairs[i])
		}
		data = append(data, x...)
	}
	return put(b, 'x', "pax", "", string(data))
}

func whole(b []byte) []byte { return append(slices.Clone(b), make([]byte, 2*blockSize)...) }

// cut is b in pieces of n bytes.
func cut(b []byte, n int) [][]byte { return slices.Collect(slices.Chunk(b, n)) }

// chop is b in pieces of any length, none among them.
func chop(r *rand.Rand, b []byte) [][]byte {
	var pieces [][]byte
	most := []int{2, 20, 600, 5000}[r.Intn(4)]
	for len(b) > 0 {
		n := min(r.Intn(most), len(b))
		pieces = append(pieces, b[:n])
		b = b[n:]
	}
	return append(pieces, nil)
}

// upload is an upload with its store and its tenant's ledger.
type upload struct {
	t     testing.TB
	arena *block.Arena
	stage *stage.Stage
	begun quota.Ledger // ahead of the upload
	q     quota.Ledger
	err   error
}

// begin is an upload of a tenant that has nothing.
func begin(t testing.TB, l api.Limits, blocks int) *upload {
	t.Helper()
	q, e := quota.New(l)
	if e != api.OK {
		t.Fatalf("limits: %v", e)
	}
	return beginWith(t, q, blocks)
}

func beginWith(t testing.TB, q quota.Ledger, blocks int) *upload {
	t.Helper()
	a, e := block.New(blocks)
	if e != api.OK {
		t.Fatalf("a store: %v", e)
	}
	return &upload{t: t, arena: a, stage: stage.New(a), begun: q, q: q}
}

func (u *upload) feed(pieces ...[]byte) *upload {
	for _, b := range pieces {
		u.q, u.err = u.stage.Feed(u.q, b)
	}
	return u
}

// row is what stands at a path, with its bytes in the place of its blocks.
type row struct {
	tree.Row
	data string
}

func (u *upload) rows() []row {
	u.t.Helper()
	var list []row
	for _, r := range u.stage.Tree().Rows {
		b, e := extent.Read(u.arena, r.Content, 0, r.Content.Size)
		if e != api.OK {
			u.t.Fatalf("the content of %q: %v", r.Path, e)
		}
		r.Content.Ids = nil
		list = append(list, row{Row: r, data: string(b)})
	}
	return list
}

func (u *upload) paths() []string {
	var list []string
	for _, r := range u.stage.Tree().Rows {
		list = append(list, r.Path)
	}
	return list
}

// data is the bytes of the file at a path.
func (u *upload) data(s string) string {
	u.t.Helper()
	for _, r := range u.rows() {
		if r.Path == s && r.Kind == api.File {
			return r.data
		}
	}
	u.t.Errorf("no file at %q", s)
	return ""
}

// holds checks what is held, in the upload and in the ledger, and how many blocks are taken.
func (u *upload) holds(bytes int64, things, blocks int) {
	u.t.Helper()
	want := u.begun
	want.HeldBytes += bytes
	want.HeldInodes += things
	if u.q != want {
		u.t.Errorf("the ledger: %+v, not %+v", u.q, want)
	}
	if n, k := u.stage.Held(); n != bytes || k != things {
		u.t.Errorf("Held: %d, %d, not %d, %d", n, k, bytes, things)
	}
	if got := u.arena.Len() - u.arena.Free(); got != blocks {
		u.t.Errorf("%d blocks are taken, not %d", got, blocks)
	}
}

// sound checks what is true of every upload at every step.
func (u *upload) sound() {
	u.t.Helper()
	t := u.stage.Tree()
	of := usage.Of(t)
	blocks := 0
	for _, c := range t.Contents() {
		blocks += len(c.Ids)
		for _, id := range c.Ids {
			if u.arena.Holds(id) != 1 {
				u.t.Errorf("the block %d is held %d times", id, u.arena.Holds(id))
			}
		}
	}
	n, k := u.stage.Held()
	if k != of.Inodes || n < of.Bytes {
		u.t.Errorf("%d bytes and %d things are held for %+v", n, k, of)
	}
	u.holds(n, k, blocks)
	if u.q.Bytes+u.q.HeldBytes > u.q.Limits.Bytes || u.q.Inodes+u.q.HeldInodes > u.q.Limits.Inodes || of.Depth > u.q.Limits.Depth || of.Length > u.q.Limits.Length {
		u.t.Errorf("beyond the limits: %+v, %+v", u.q, of)
	}
}

// over checks that an upload is over with that error: nothing of it is left, and it stays so.
func (u *upload) over(want api.Errno, place int) {
	u.t.Helper()
	first := u.err
	for range 2 {
		if _, ok := u.err.(fault.At); !ok || fault.Code(u.err) != want || fault.Place(u.err) != place || fault.Depth(u.err) != 1 || u.err != first {
			u.t.Errorf("%v at %d (%v), not %v at %d", fault.Code(u.err), fault.Place(u.err), u.err, want, place)
		}
		if end := u.stage.End(); end != first {
			u.t.Errorf("End: %v, not %v", end, first)
		}
		if got := u.stage.Tree(); len(got.Rows) != 0 || got.Next != 0 {
			u.t.Errorf("laid out: %+v", got)
		}
		u.holds(0, 0, 0)
		read := u.stage.Received()
		u.q = u.stage.Drop(u.q)
		u.feed(put(nil, '0', "later", "", "bytes"))
		if u.stage.Received() != read {
			u.t.Errorf("read behind the end: %d, not %d", u.stage.Received(), read)
		}
	}
}

// pieceLengths are those in which archives come.
func pieceLengths(b []byte) []int { return []int{1, 7, 63, 64, 65, 511, 512, 513, 4096, len(b) + 1} }

// refuse uploads what isn't taken, in all kinds of pieces.
func refuse(t *testing.T, l api.Limits, b []byte, want api.Errno, place int) {
	t.Helper()
	for _, n := range pieceLengths(b) {
		u := begin(t, l, 8).feed(cut(b, n)...)
		u.over(want, place)
		if t.Failed() {
			t.Fatalf("in pieces of %d", n)
		}
	}
}

// accept uploads what is taken, in all kinds of pieces: the last one is answered.
func accept(t *testing.T, l api.Limits, b []byte) *upload {
	t.Helper()
	var last *upload
	for _, n := range pieceLengths(b) {
		u := begin(t, l, 8)
		for _, piece := range cut(b, n) {
			u.feed(piece)
			if u.err != nil {
				t.Fatalf("in pieces of %d: %v at %d", n, fault.Code(u.err), fault.Place(u.err))
			}
		}
		u.sound()
		if last != nil && (!reflect.DeepEqual(u.rows(), last.rows()) || u.stage.Tree().Next != last.stage.Tree().Next || u.q != last.q) {
			t.Fatalf("in pieces of %d:\n%+v, not\n%+v", n, u.rows(), last.rows())
		}
		last = u
	}
	return last
}

// The document's example: an archive of d/a with two bytes: two things and two bytes are held, one block is taken.
func TestExample(t *testing.T) {
	u := accept(t, wide, whole(put(nil, '0', "d/a", "", "hi")))
	u.holds(2, 2, 1)
	if u.data("d/a") != "hi" || u.stage.End() != nil {
		t.Errorf("%+v, %v", u.rows(), u.stage.End())
	}
}

// P16.1: an upload of which nothing came.
func TestNew(t *testing.T) {
	u := begin(t, wide, 3)
	if got := u.stage.Tree(); len(got.Rows) != 0 || got.Next != 0 || u.stage.Received() != 0 {
		t.Errorf("%+v, %d", got, u.stage.Received())
	}
	if end := u.stage.End(); fault.Code(end) != api.ErrShort || fault.Place(end) != 0 {
		t.Errorf("End: %v", end)
	}
	u.holds(0, 0, 0)
	u.feed(nil, []byte{})
	if u.err != nil || u.stage.Received() != 0 {
		t.Errorf("nothing comes: %v, %d", u.err, u.stage.Received())
	}
	u.holds(0, 0, 0)
}

// P16.1: all is told as it comes: what was read, laid out and held at each byte.
func TestAtEachByte(t *testing.T) {
	long := strings.Repeat("x", 130)
	b := put(nil, '0', "d/a", "", long)
	end := len(b)
	u := begin(t, wide, 8)
	for i, piece := range cut(b, 1) {
		u.feed(piece)
		n := i + 1
		if u.err != nil || u.stage.Received() != n {
			t.Fatalf("at %d: %v, %d", n, u.err, u.stage.Received())
		}
		if n < blockSize {
			u.holds(0, 0, 0)
			continue
		}
		came := min(n-blockSize, len(long))
		u.holds(130, 2, (came+63)/64)
		if got := u.data("d/a"); got != long[:came] {
			t.Fatalf("at %d: %d bytes", n, len(got))
		}
	}
	b = whole(nil)
	u.feed(b[:600], append(b[600:], "and more"...), []byte("and more"))
	if u.err != nil || u.stage.Received() != end+1024 || u.stage.End() != nil {
		t.Errorf("behind the end: %v, %d, %v", u.err, u.stage.Received(), u.stage.End())
	}
	u.holds(130, 2, 3)
}

// P16.3: fields of what is laid out are the entry's.
func TestFields(t *testing.T) {
	h := head.Header{Mode: 0o107654, Uid: 11, Gid: 12, Mtime: 13, User: "u", Group: "g"}
	with := func(name string, typ byte, link string) head.Header {
		h := h
		h.Name, h.Type, h.Link = name, typ, link
		return h
	}
	b := putHeader(nil, with("./d//a", '0', "no link"), "abc")
	b = putHeader(b, with("e/", '5', "no link"), "")
	b = putHeader(b, with("d/s", '2', "..//./e/"), "")
	b = putHeader(records(b, "path", "e/long", "uid", "99999999999", "mtime", "-5", "uname", "someone", "size", "3"), with("short", '7', ""), "xyz")
	u := accept(t, wide, whole(b))
	node := func(kind int, to string, size int) tree.Node {
		return tree.Node{Kind: kind, Mode: 0o7654, Uid: 11, Gid: 12, Mtime: 13, User: "u", Group: "g", Target: to, Content: extent.Content{Size: size}}
	}
	long := node(api.File, "", 3)
	long.Uid, long.Mtime, long.User = 99999999999, -5, "someone"
	want := []row{
		{Row: tree.Row{Path: "d", ID: 0, Node: tree.Node{Kind: api.Dir, Mode: 0o755, Made: true}}},
		{Row: tree.Row{Path: "d/a", ID: 1, Node: node(api.File, "", 3)}, data: "abc"},
		{Row: tree.Row{Path: "d/s", ID: 3, Node: node(api.Soft, "..//./e/", 0)}},
		{Row: tree.Row{Path: "e", ID: 2, Node: node(api.Dir, "", 0)}},
		{Row: tree.Row{Path: "e/long", ID: 4, Node: long}, data: "xyz"},
	}
	if got := u.rows(); !reflect.DeepEqual(got, want) {
		t.Errorf("laid out:\n%+v, not\n%+v", got, want)
	}
	u.holds(6, 5, 2)
}

// P16.3: the errors of an entry, at where its header ended, and nothing is left.
func TestEntryErrors(t *testing.T) {
	part := strings.Repeat("p", 256)
	name := func(s string, typ byte, link string) []byte {
		return put(records(nil, "path", s), typ, "x", link, "")
	}
	link := func(b []byte, s string, typ byte, name string) []byte {
		return put(records(b, "linkpath", s), typ, name, "x", "")
	}
	file := put(nil, '0', "f", "", "12")
	dir := put(nil, '5', "d", "", "")
	soft := put(nil, '2', "s", "f", "")
	for _, x := range []struct {
		what string
		b    []byte
		want api.Errno
	}{
		{"a path above", put(nil, '0', "../a", "", ""), api.ErrDots},
		{"a path through another one", put(nil, '5', "a/../b", "", ""), api.ErrDots},
		{"a path from the root on", put(nil, '2', "/a", "b", ""), api.ErrAbsolute},
		{"no path", put(nil, '0', "", "", ""), api.ErrEmpty},
		{"no path of a directory", put(nil, '5', "", "", ""), api.ErrEmpty},
		{"a path that is no text", put(nil, '1', "a\xff", "f", ""), api.ErrText},
		{"a path with a byte 0", name("a\x00b", '0', ""), api.ErrNul},
		{"a part that is too long", name(part, '0', ""), api.ErrLong},
		{"a path that is too long", name(strings.Repeat("a/", 2001), '0', ""), api.ErrLong},
		{"a file at the root", put(nil, '0', "./", "", "12"), api.ErrEmpty},
		{"a name at the root", put(nil, '2', ".", "f", ""), api.ErrEmpty},
		{"a second name at the root", put(file, '1', ".", "f", ""), api.ErrEmpty},
		{"the path ahead of the link", put(nil, '1', "../a", "/f", ""), api.ErrDots},
		{"the path ahead of the target", put(nil, '2', "/a", "../f", ""), api.ErrAbsolute},
		{"the link ahead of the root", put(nil, '1', ".", "../f", ""), api.ErrDots},
		{"the target ahead of the root", put(nil, '2', ".", "..", ""), api.ErrEscape},
		{"a link above", put(file, '1', "a", "../f", ""), api.ErrDots},
		{"a link through another one", put(file, '1', "a", "d/../f", ""), api.ErrDots},
		{"a link from the root on", put(file, '1', "a", "/f", ""), api.ErrAbsolute},
		{"no link", put(file, '1', "a", "", ""), api.ErrEmpty},
		{"a link that is no text", put(file, '1', "a", "\xff", ""), api.ErrText},
		{"a link with a byte 0", link(file, "f\x00", '1', "a"), api.ErrNul},
		{"a link that is too long", link(file, part, '1', "a"), api.ErrLong},
		{"a link to nothing", put(file, '1', "a", "g", ""), api.ErrMissing},
		{"a link to the root", put(file, '1', "a", ".", ""), api.ErrMissing},
		{"a link to a directory", put(dir, '1', "a", "d", ""), api.ErrClash},
		{"a link to a name", put(soft, '1', "a", "s", ""), api.ErrClash},
		{"a link at a directory", put(slices.Concat(file, dir), '1', "d", "f", ""), api.ErrClash},
		{"a link in a file", put(file, '1', "f/a", "f", ""), api.ErrClash},
		{"a link to itself that isn't there", put(nil, '1', "a", "a", ""), api.ErrMissing},
		{"no target", put(nil, '2', "a", "", ""), api.ErrEmpty},
		{"a target above", put(nil, '2', "a", "../f", ""), api.ErrEscape},
		{"a target above, two deep", put(nil, '2', "d/a", "../../f", ""), api.ErrEscape},
		{"a target above, on its way", put(nil, '2', "d/a", "../../d/f", ""), api.ErrEscape},
		{"a target from the root on", put(nil, '2', "a", "/f", ""), api.ErrEscape},
		{"a target that is no text", put(nil, '2', "a", "\xff", ""), api.ErrText},
		{"a target with a byte 0", link(nil, "f\x00", '2', "a"), api.ErrNul},
		{"a target that is too long", link(nil, part, '2', "a"), api.ErrLong},
		{"a file at a directory", put(dir, '0', "d", "", ""), api.ErrClash},
		{"a name at a directory", put(dir, '2', "d", "f", ""), api.ErrClash},
		{"a directory at a file", put(file, '5', "f", "", ""), api.ErrClash},
		{"a directory at a name", put(soft, '5', "s", "", ""), api.ErrClash},
		{"a file in a file", put(file, '0', "f/a", "", ""), api.ErrClash},
		{"a file in a name", put(soft, '0', "s/a", "", ""), api.ErrClash},
		{"a directory in a name", put(soft, '5', "s/a/b", "", ""), api.ErrClash},
	} {
		t.Run(x.what, func(t *testing.T) {
			place := len(x.b)
			if bytes.HasSuffix(x.b, []byte("z")) { // its last block is the file's, not the header
				place -= blockSize
			}
			refuse(t, wide, x.b, x.want, place)
			refuse(t, wide, whole(put(x.b, '0', "more", "", "bytes")), x.want, place)
			first := put(nil, '0', "first", "", strings.Repeat("1", 70))
			refuse(t, wide, slices.Concat(first, x.b), x.want, len(first)+place)
		})
	}
}

// P16.3: what is taken, though it looks as if it weren't.
func TestEntriesTaken(t *testing.T) {
	b := put(nil, '5', "./", "", "")
	b = put(b, '0', "./d/./a", "", "abc")
	b = put(b, '1', "d//b/", "./d/a", "")
	b = put(b, '1', "d/a", "d/a", "")
	b = put(b, '2', "d/up", "..", "")
	b = put(b, '2', "d/nowhere", "../no/such/thing", "")
	b = put(b, '2', "self", "self", "")
	b = put(b, '5', "d", "", "")
	b = put(b, '5', "d", "", "")
	b = put(b, '5', ".//.", "", "")
	u := accept(t, wide, whole(b))
	if want := []string{"d", "d/a", "d/b", "d/nowhere", "d/up", "self"}; !slices.Equal(u.paths(), want) {
		t.Errorf("%q, not %q", u.paths(), want)
	}
	u.holds(3, 5, 1)
	got := u.stage.Tree()
	a, _ := got.Get("d/a")
	again, _ := got.Get("d/b")
	if a.ID != again.ID || u.data("d/b") != "abc" {
		t.Errorf("a second name: %+v, %+v", a, again)
	}
	if d, _ := got.Get("d"); d.Made || d.ID != 0 || d.Mode != 0o644 {
		t.Errorf("a directory that was named later: %+v", d)
	}
}

// P16.3: Depth and Length are held against the clean path, and told behind Clean's errors, but ahead of all else.
func TestDepthAndLength(t *testing.T) {
	l := tight(func(l *api.Limits) { l.Depth, l.Length = 3, 7 })
	b := put(nil, '0', "./aa//./bb/c", "", "1")
	b = put(b, '5', "1234567/", "", "")
	b = put(b, '1', "./a/b/c", "aa/bb/c", "")
	b = put(b, '2', "x", "a/very/long/target/that/is/none", "")
	if u := accept(t, l, whole(b)); !slices.Equal(u.paths(), []string{"1234567", "a", "a/b", "a/b/c", "aa", "aa/bb", "aa/bb/c", "x"}) {
		t.Errorf("%q", u.paths())
	}
	for _, x := range []struct {
		typ        byte
		name, link string
		want       api.Errno
	}{
		{'0', "a/b/c/d", "", api.ErrQuota},
		{'5', "a/b/c/d", "", api.ErrQuota},
		{'1', "a/b/c/d", "/x", api.ErrQuota},
		{'2', "a/b/c/d", "/x", api.ErrQuota},
		{'0', "12345678", "", api.ErrQuota},
		{'5', "123/5678", "", api.ErrQuota},
		{'1', "12345678", "nothing", api.ErrQuota},
		{'2', "12345678", "", api.ErrQuota},
		{'0', "\u00e9\u00e9\u00e9\u00e9", "", api.ErrQuota},
		{'0', "f/345678", "", api.ErrQuota},
		{'0', "f/b/c/d", "", api.ErrQuota},
		{'0', "a/b/c/d/../e", "", api.ErrDots},
		{'0', "/2345678", "", api.ErrAbsolute},
		{'1', "1234567", "nothing", api.ErrMissing},
	} {
		b := put(nil, '0', "f", "", "12")
		refuse(t, l, put(b, x.typ, x.name, x.link, ""), x.want, len(b)+blockSize)
	}
	none := tight(func(l *api.Limits) { l.Depth, l.Length = 0, 0 })
	accept(t, none, whole(put(nil, '5', "./", "", ""))).holds(0, 0, 0)
	refuse(t, none, put(nil, '5', "a", "", ""), api.ErrQuota, blockSize)
	refuse(t, tight(func(l *api.Limits) { l.Depth = 0 }), put(nil, '5', "a", "", ""), api.ErrQuota, blockSize)
	refuse(t, tight(func(l *api.Limits) { l.Length = 0 }), put(nil, '5', "a", "", ""), api.ErrQuota, blockSize)
}

// P16.2: what is no archive has layer 12's place: where the header begins.
func TestNoArchive(t *testing.T) {
	b := put(nil, '0', "d/a", "", strings.Repeat("a", 100))
	broken := put(nil, '0', "b", "", "")
	broken[0] = 'c'
	for _, x := range []struct {
		b    []byte
		want api.Errno
	}{
		{broken, api.ErrSum},
		{put(nil, '3', "b", "", ""), api.ErrKind},
		{put(nil, 'x', "b", "", "no record"), api.ErrRecord},
		{put(nil, 'x', "b", "", strings.Repeat("a", 8193)), api.ErrLong},
		{records(nil, "size", "-1"), api.OK},
	} {
		place := len(b)
		if x.want == api.OK { // the record is right, the entry behind it isn't
			place, x.b, x.want = place+len(x.b), put(x.b, '0', "b", "", ""), api.ErrEntry
		}
		refuse(t, wide, slices.Concat(b, x.b), x.want, place)
		refuse(t, wide, whole(put(slices.Concat(b, x.b), '0', "../more", "", "")), x.want, place)
	}
	u := begin(t, wide, 8).feed(whole(slices.Concat(b, broken)))
	if u.stage.Received() != len(b)+blockSize {
		t.Errorf("behind what is no archive: %d bytes were read", u.stage.Received())
	}
	half := slices.Concat(b, make([]byte, blockSize), put(nil, '0', "b", "", ""))
	refuse(t, wide, half, api.ErrArchive, len(b)+blockSize)
}

// P16.2: what was found first is told, whatever comes behind it in the same piece.
func TestFirstError(t *testing.T) {
	b := put(nil, '0', "a", "", "12")
	b = put(b, '0', "../b", "", "34")
	b = put(b, '3', "c", "", "")
	refuse(t, wide, b, api.ErrDots, 3*blockSize)
	b = put(nil, '3', "c", "", "")
	refuse(t, wide, put(b, '0', "../b", "", ""), api.ErrKind, 0)
}

// P16.4: Bytes are held as the header says, ahead of the bytes, and within the limits.
func TestBytesHeld(t *testing.T) {
	l := tight(func(l *api.Limits) { l.Bytes = 100 })
	b := put(nil, '0', "a", "", strings.Repeat("a", 60))
	b = put(b, '0', "b", "", strings.Repeat("b", 40))
	accept(t, l, whole(b)).holds(100, 2, 2)
	refuse(t, l, put(b, '0', "c", "", "1"), api.ErrQuota, len(b)+blockSize)
	refuse(t, l, put(b, '0', "c", "", "1")[:len(b)+blockSize], api.ErrQuota, len(b)+blockSize)
	accept(t, l, whole(put(put(b, '0', "c", "", ""), '1', "d", "a", ""))).holds(100, 3, 2)

	u := begin(t, l, 4).feed(b[:blockSize])
	u.holds(60, 1, 0)
	u.feed(b[blockSize : blockSize+1])
	u.holds(60, 1, 1)

	for _, size := range []string{"101", "4611686018427387904", "9223372036854775807"} {
		refuse(t, l, put(records(nil, "size", size), '0', "a", "", ""), api.ErrQuota, 3*blockSize)
	}
	most := tight(func(l *api.Limits) { l.Bytes = quota.MaxCount })
	u = begin(t, most, 1).feed(put(records(nil, "size", "4611686018427387903"), '0', "a", "", ""))
	if u.err != nil {
		t.Errorf("as much as there may be: %v", u.err)
	}
	u.holds(quota.MaxCount, 1, 0)
	u.feed(make([]byte, 64))
	u.holds(quota.MaxCount, 1, 1)
	u.feed(make([]byte, 1))
	u.over(api.ErrFull, 3*blockSize)
}

// P16.4: what isn't a File has no bytes, whatever its header says.
func TestBytesOfOthers(t *testing.T) {
	l := tight(func(l *api.Limits) { l.Bytes = 2 })
	b := put(nil, '0', "f", "", "12")
	for _, x := range []struct{ typ, name, link string }{{"5", "d", ""}, {"2", "s", "f"}, {"1", "h", "f"}} {
		h, _ := head.Encode(head.Header{Name: x.name, Link: x.link, Type: x.typ[0], Size: 4096})
		b = append(b, h...)
	}
	accept(t, l, whole(b)).holds(2, 3, 1)
}

// P16.4: things are held as they come, those that nobody named among them, and within the limits.
func TestThingsHeld(t *testing.T) {
	l := tight(func(l *api.Limits) { l.Inodes = 4 })
	b := put(nil, '0', "d/e/a", "", "a")
	accept(t, l, whole(b)).holds(1, 3, 1)
	accept(t, l, whole(put(b, '2', "d/s", "e", ""))).holds(1, 4, 1)
	b = put(b, '5', "d/f", "", "")
	accept(t, l, whole(b)).holds(1, 4, 1)
	for _, x := range [][]byte{
		put(b, '0', "b", "", ""), put(b, '2', "b", "a", ""), put(b, '5', "b", "", ""), put(b, '1', "g/b", "d/e/a", ""),
	} {
		refuse(t, l, x, api.ErrQuota, len(b)+blockSize)
	}
	b = put(b, '1', "b", "d/e/a", "")
	b = put(b, '5', "d/e", "", "")
	accept(t, l, whole(b)).holds(1, 4, 1)
	refuse(t, l, put(nil, '0', "1/2/3/4/5", "", ""), api.ErrQuota, blockSize)
	none := tight(func(l *api.Limits) { l.Inodes = 0 })
	accept(t, none, whole(put(nil, '5', ".", "", ""))).holds(0, 0, 0)
	refuse(t, none, put(nil, '5', "a", "", ""), api.ErrQuota, blockSize)
}

// P16.4: what is there no more is freed ahead of what is held, and its blocks are free with the header.
func TestReplaced(t *testing.T) {
	l := tight(func(l *api.Limits) { l.Bytes, l.Inodes = 100, 1 })
	old := put(nil, '0', "a", "", strings.Repeat("a", 100))
	u := begin(t, l, 2).feed(old)
	u.holds(100, 1, 2)
	b := put(nil, '0', "./a", "", strings.Repeat("b", 99))
	u.feed(b[:blockSize-1])
	u.holds(100, 1, 2)
	u.feed(b[blockSize-1 : blockSize])
	u.holds(99, 1, 0)
	if u.data("a") != "" {
		t.Error("the bytes of what was replaced")
	}
	u.feed(b[blockSize:])
	u.holds(99, 1, 2)
	if u.data("a") != strings.Repeat("b", 99) {
		t.Error("the bytes of what came in its place")
	}
	if r, _ := u.stage.Tree().Get("a"); r.ID != 1 {
		t.Errorf("its number: %d", r.ID)
	}
	accept(t, l, whole(put(old, '0', "a", "", strings.Repeat("b", 100)))).holds(100, 1, 2)
	refuse(t, l, put(old, '0', "a", "", strings.Repeat("b", 101)), api.ErrQuota, len(old)+blockSize)
	accept(t, l, whole(put(old, '2', "a", "b", ""))).holds(0, 1, 0)
	accept(t, l, whole(put(put(nil, '2', "a", "b", ""), '2', "a", "c", ""))).holds(0, 1, 0)
	accept(t, l, whole(put(put(nil, '2', "a", "b", ""), '0', "a", "", "12"))).holds(2, 1, 1)
}

// P16.4: a file stays as long as it has a name.
func TestSecondNames(t *testing.T) {
	b := put(nil, '0', "a", "", strings.Repeat("a", 70))
	b = put(b, '1', "b", "a", "")
	b = put(b, '0', "a", "", "new")
	u := accept(t, wide, whole(b))
	u.holds(73, 2, 3)
	if u.data("a") != "new" || u.data("b") != strings.Repeat("a", 70) {
		t.Errorf("%+v", u.rows())
	}
	accept(t, wide, whole(put(b, '1', "b", "a", ""))).holds(3, 1, 1)
	accept(t, wide, whole(put(b, '1', "a", "b", ""))).holds(70, 1, 2)
	accept(t, wide, whole(put(b, '2', "b", "a", ""))).holds(3, 2, 1)
	accept(t, wide, whole(put(b, '1', "a", "a", ""))).holds(73, 2, 3)
	b = put(put(b, '1', "b", "a", ""), '1', "a", "b", "")
	accept(t, wide, whole(b)).holds(3, 1, 1)
	l := tight(func(l *api.Limits) { l.Bytes = 72 })
	refuse(t, l, b, api.ErrQuota, 4*blockSize)
	l.Bytes = 73
	accept(t, l, b)
}

// P16.4: ErrFull, if there is no room in the store, at the file's header, whatever the pieces are.
func TestFull(t *testing.T) {
	for _, n := range []int{1, 63, 64, 65, 127, 128, 256, 512} {
		b := put(nil, '0', "a", "", strings.Repeat("a", n))
		accept(t, wide, whole(b)).holds(int64(n), 1, (n+63)/64)
	}
	for _, n := range []int{513, 600, 5000, extent.MaxSize, extent.MaxSize + 1} {
		b := put(nil, '0', "a", "", strings.Repeat("a", n))
		refuse(t, wide, b[:min(len(b), 20000)], api.ErrFull, blockSize)
		begin(t, wide, 8).feed(b).over(api.ErrFull, blockSize)
	}
	b := put(put(nil, '0', "a", "", strings.Repeat("a", 449)), '0', "b", "", "")
	accept(t, wide, whole(b)).holds(449, 2, 8)
	refuse(t, wide, put(b, '0', "c", "", "1"), api.ErrFull, len(b)+blockSize)
	accept(t, wide, whole(put(b, '0', "a", "", "1"))).holds(1, 2, 1)

	u := begin(t, wide, 0).feed(put(nil, '0', "a", "", ""))
	u.holds(0, 1, 0)
	u.feed(put(nil, '0', "b", "", "1"))
	u.over(api.ErrFull, 2*blockSize)
}

// P16.4: the greatest store is full, too, with more bytes than a content has: in one piece and in many that is one error.
func TestFullAndLong(t *testing.T) {
	for _, n := range []int{1 << 12, 1 << 20, 1 << 22} {
		b := put(nil, '0', "a", "", strings.Repeat("a", extent.MaxSize))
		begin(t, wide, block.MaxBlocks).feed(cut(b, n)...).holds(extent.MaxSize, 1, block.MaxBlocks)
		b = put(nil, '0', "a", "", strings.Repeat("a", extent.MaxSize+1))
		begin(t, wide, block.MaxBlocks).feed(cut(b, n)...).over(api.ErrFull, blockSize)
	}
}

// P16.4: a store of which others hold blocks: they are left alone.
func TestSharedStore(t *testing.T) {
	a, _ := block.New(4)
	q, _ := quota.New(wide)
	first, second := stage.New(a), stage.New(a)
	q, _ = first.Feed(q, put(nil, '0', "a", "", strings.Repeat("1", 100)))
	q, err := second.Feed(q, put(nil, '0', "a", "", strings.Repeat("2", 128)))
	if err != nil || a.Free() != 0 || q.HeldBytes != 228 || q.HeldInodes != 2 {
		t.Fatalf("%v, %d, %+v", err, a.Free(), q)
	}
	q, err = second.Feed(q, put(nil, '0', "b", "", "1"))
	if fault.Code(err) != api.ErrFull || a.Free() != 2 || q.HeldBytes != 100 || q.HeldInodes != 1 {
		t.Errorf("%v, %d, %+v", err, a.Free(), q)
	}
	r, _ := first.Tree().Get("a")
	if b, e := extent.Read(a, r.Content, 0, 100); e != api.OK || string(b) != strings.Repeat("1", 100) {
		t.Errorf("the other one's bytes: %q, %v", b, e)
	}
	if q = first.Drop(q); a.Free() != 4 || q.HeldBytes != 0 || q.HeldInodes != 0 {
		t.Errorf("%d, %+v", a.Free(), q)
	}
}

// P16.1, P16.2, P16.4: a ledger in which there is more than the upload's: what isn't its stays.
func TestSharedLedger(t *testing.T) {
	l := tight(func(l *api.Limits) { l.Bytes, l.Inodes = 100, 10 })
	q, _ := quota.New(l)
	q, _ = q.Settle(0, 0, 30, 3)
	q, _ = q.Hold(50, 2)
	b := put(nil, '0', "d/a", "", strings.Repeat("a", 20))
	u := beginWith(t, q, 4).feed(b)
	u.holds(20, 2, 1)
	u.feed(put(nil, '0', "d/a", "", strings.Repeat("b", 20)))
	u.holds(20, 2, 1)
	u.feed(put(nil, '5', "1/2/3", "", ""))
	u.holds(20, 5, 1)
	u.feed(put(nil, '0', "b", "", ""))
	u.over(api.ErrQuota, 2*len(b)+2*blockSize)
	beginWith(t, q, 4).feed(put(nil, '0', "a", "", strings.Repeat("a", 21))).over(api.ErrQuota, blockSize)
}

// P16.4: Ratio behind a file's last byte: of the bytes that were read by then, and of those of all Files that came.
func TestRatio(t *testing.T) {
	exact := func(num, den, allow int64) api.Limits {
		return tight(func(l *api.Limits) { l.Num, l.Den, l.Allow = num, den, allow })
	}
	a := put(nil, '0', "a", "", strings.Repeat("a", 30))
	accept(t, exact(0, 1, 30), whole(a))
	refuse(t, exact(0, 1, 29), a, api.ErrRatio, blockSize)
	refuse(t, exact(0, 1, 29), a[:blockSize+30], api.ErrRatio, blockSize)
	accept(t, exact(0, 1, 29), a[:blockSize+29])
	accept(t, exact(30, 542, 0), whole(a))
	refuse(t, exact(29, 542, 0), a, api.ErrRatio, blockSize)
	refuse(t, exact(30, 543, 0), a, api.ErrRatio, blockSize)

	b := put(put(a, '2', "s", "a", ""), '0', "a", "", strings.Repeat("b", 20))
	accept(t, exact(0, 1, 50), whole(b))
	refuse(t, exact(0, 1, 49), b, api.ErrRatio, len(b)-blockSize)
	b = put(put(b, '0', "a", "", ""), '1', "b", "a", "")
	accept(t, exact(0, 1, 50), whole(b))
	b = put(b, '0', "b", "", "c")
	refuse(t, exact(0, 1, 50), b, api.ErrRatio, len(b)-blockSize)
	read := int64(len(b) - blockSize + 1)
	accept(t, exact(1, read, 50), whole(b))
	refuse(t, exact(1, read+1, 50), b, api.ErrRatio, len(b)-blockSize)
	accept(t, exact(0, 1, 0), whole(put(put(nil, '0', "a", "", ""), '1', "b", "a", "")))
}

// P16.5: End tells whether the archive is whole.
func TestEnd(t *testing.T) {
	b := whole(put(put(nil, '0', "d/a", "", "hello"), '2', "s", "d", ""))
	u := begin(t, wide, 4)
	for i, piece := range cut(b, 1) {
		if end := u.stage.End(); fault.Code(end) != api.ErrShort || fault.Place(end) != i {
			t.Fatalf("at %d: %v", i, end)
		}
		u.feed(piece)
	}
	if end := u.stage.End(); end != nil || u.err != nil {
		t.Errorf("%v, %v", end, u.err)
	}
	u.holds(5, 3, 1)
	u.feed(put(nil, '0', "later", "", "1"))
	if u.err != nil || u.stage.Received() != len(b) || len(u.rows()) != 3 {
		t.Errorf("behind the end: %v, %d, %+v", u.err, u.stage.Received(), u.rows())
	}
}

// P16.5: Drop at each byte: nothing is left.
func TestDrop(t *testing.T) {
	b := put(nil, '0', "d/a", "", strings.Repeat("a", 200))
	b = put(b, '1', "d/b", "d/a", "")
	b = whole(put(b, '0', "d/a", "", strings.Repeat("b", 100)))
	for n := range len(b) + 1 {
		u := begin(t, wide, 8).feed(b[:n])
		if u.err != nil {
			t.Fatalf("at %d: %v", n, u.err)
		}
		end := u.stage.End()
		for range 2 {
			u.q = u.stage.Drop(u.q)
			u.holds(0, 0, 0)
			if got := u.stage.Tree(); len(got.Rows) != 0 || got.Next != 0 {
				t.Fatalf("at %d: %+v", n, got)
			}
		}
		if !reflect.DeepEqual(u.stage.End(), end) || u.stage.Received() != n {
			t.Fatalf("at %d: %v, %d", n, u.stage.End(), u.stage.Received())
		}
	}
}

// P16.5: Keep: the blocks stay taken, with their bytes, and the ledger isn't changed.
func TestKeep(t *testing.T) {
	b := whole(put(put(nil, '0', "d/a", "", strings.Repeat("a", 200)), '1', "b", "d/a", ""))
	u := begin(t, wide, 8).feed(b)
	kept, q := u.stage.Tree(), u.q
	for range 2 {
		u.stage.Keep()
		if n, k := u.stage.Held(); n != 0 || k != 0 || len(u.stage.Tree().Rows) != 0 || u.arena.Free() != 4 {
			t.Errorf("%d, %d, %+v, %d", n, k, u.stage.Tree(), u.arena.Free())
		}
		if got := u.stage.Drop(q); got != q || u.arena.Free() != 4 {
			t.Errorf("Drop of what is somebody else's: %+v, %d", got, u.arena.Free())
		}
	}
	r, found := kept.Get("b")
	if x, e := extent.Read(u.arena, r.Content, 0, 200); !found || e != api.OK || string(x) != strings.Repeat("a", 200) {
		t.Errorf("what was kept: %q, %v", x, e)
	}
	if u.stage.End() != nil || u.stage.Received() != len(b) {
		t.Errorf("%v, %d", u.stage.End(), u.stage.Received())
	}
}

// P16.5: bytes of a file that was dropped, or kept, in its midst go nowhere: the upload takes no block for it, and what is kept stays as it is.
func TestGoneInItsMidst(t *testing.T) {
	b := put(nil, '0', "d/a", "", strings.Repeat("a", 300))
	u := begin(t, wide, 8).feed(b[:blockSize+100])
	u.q = u.stage.Drop(u.q)
	u.feed(b[blockSize+100:])
	u.holds(0, 0, 0)
	u.feed(put(nil, '0', "b", "", "12"))
	u.holds(2, 1, 1)
	if u.err != nil || !slices.Equal(u.paths(), []string{"b"}) {
		t.Errorf("%v, %q", u.err, u.paths())
	}

	u = begin(t, wide, 8).feed(b[:blockSize+100])
	kept := u.stage.Tree()
	u.stage.Keep()
	u.feed(b[blockSize+100:])
	r, _ := kept.Get("d/a")
	if x, e := extent.Read(u.arena, r.Content, 0, r.Content.Size); e != api.OK || string(x) != strings.Repeat("a", 100) || u.arena.Free() != 6 {
		t.Errorf("%q, %v, %d", x, e, u.arena.Free())
	}
}

// P1, rule 5: a ledger that isn't the tenant's, limits that nobody checked: each call ends.
func TestOddLedgers(t *testing.T) {
	b := put(put(nil, '0', "d/a", "", "hello"), '0', "d/a", "", "again")
	odd := []quota.Ledger{
		{}, {Limits: wide}, {Limits: wide, Bytes: -1, Inodes: -1, HeldBytes: -1, HeldInodes: -1},
		{Limits: api.Limits{Bytes: math.MinInt64, Inodes: math.MinInt, Depth: -1, Length: -1, Num: -1, Den: -1, Allow: -1}},
		{Limits: api.Limits{Bytes: math.MaxInt64, Inodes: math.MaxInt, Depth: math.MaxInt, Length: math.MaxInt, Num: math.MaxInt64}, Bytes: math.MaxInt64, HeldBytes: math.MaxInt64},
	}
	for _, q := range odd {
		for _, n := range []int{1, 512, 700, 5000} {
			a, _ := block.New(4)
			s := stage.New(a)
			for _, piece := range cut(b, n) {
				s.Feed(q, piece)
			}
			s.Drop(q)
			if a.Free() != 4 || len(s.Tree().Rows) != 0 {
				t.Errorf("%+v: %d are free", q, a.Free())
			}
		}
	}
}

// P1: archives with bytes changed: each call ends, and all is as it must be at each step.
func TestChangedBytes(t *testing.T) {
	r := rand.New(rand.NewSource(4))
	b := put(nil, '0', "d/a", "", strings.Repeat("a", 150))
	b = put(b, '1', "d/b", "d/a", "")
	b = put(records(b, "path", "e/f", "linkpath", "../d"), '2', "x", "y", "")
	b = whole(put(b, '5', "e/", "", ""))
	for range 400 {
		x := slices.Clone(b)
		for range 1 + r.Intn(3) {
			x[r.Intn(len(x))] = byte(r.Intn(256))
		}
		u := begin(t, wide, 4)
		for _, piece := range chop(r, x) {
			u.feed(piece)
			u.sound()
		}
		if u.err == nil {
			u.q = u.stage.Drop(u.q)
			u.holds(0, 0, 0)
		}
	}
	for range 200 {
		x := make([]byte, r.Intn(3000))
		r.Read(x)
		u := begin(t, wide, 4).feed(chop(r, x)...)
		u.sound()
	}
}

// P2, rule 4: bytes that are handed in are neither changed nor kept, nor is their spare room.
func TestHandedIn(t *testing.T) {
	b := whole(put(records(nil, "path", "d/a", "uname", "someone"), '0', "x", "", strings.Repeat("a", 100)))
	u := begin(t, wide, 4)
	for _, piece := range cut(b, 100) {
		room := append(slices.Clone(piece), make([]byte, 600)...)
		for i := range room[len(piece):] {
			room[len(piece)+i] = 's'
		}
		was := slices.Clone(room)
		u.feed(room[:len(piece)])
		if !bytes.Equal(room, was) {
			t.Fatal("what was handed in was changed")
		}
		for i := range room {
			room[i] = 'X'
		}
	}
	if r, _ := u.stage.Tree().Get("d/a"); r.User != "someone" || u.data("d/a") != strings.Repeat("a", 100) || u.err != nil || u.stage.End() != nil {
		t.Errorf("%+v, %v", r, u.err)
	}
}

// P2, rule 4: a tree that was answered is new, and stays as it is while the upload goes on.
func TestAnsweredTree(t *testing.T) {
	b := put(put(nil, '0', "a", "", strings.Repeat("a", 100)), '2', "s", "a", "")
	u := begin(t, wide, 8).feed(b)
	want := u.rows()
	spoilt := u.stage.Tree()
	for i := range spoilt.Rows {
		for k := range spoilt.Rows[i].Content.Ids {
			spoilt.Rows[i].Content.Ids[k] = -1
		}
		spoilt.Rows[i] = tree.Row{Path: "spoilt"}
	}
	_ = append(spoilt.Rows[:0:cap(spoilt.Rows)], make([]tree.Row, cap(spoilt.Rows))...)
	if got := u.rows(); !reflect.DeepEqual(got, want) {
		t.Errorf("%+v, not %+v", got, want)
	}
	first := u.stage.Tree()
	copied := tree.Tree{Rows: slices.Clone(first.Rows), Next: first.Next}
	ids := slices.Clone(first.Rows[0].Content.Ids)
	u.feed(put(nil, '0', "b", "", "b"), put(nil, '0', "a", "", "new"), put(nil, '2', "s", "b", ""))
	u.q = u.stage.Drop(u.q)
	if !reflect.DeepEqual(first, copied) || !slices.Equal(first.Rows[0].Content.Ids, ids) {
		t.Errorf("a tree that was answered: %+v, not %+v", first, copied)
	}
}

// P2, rule 4: there is no chance in which blocks are taken, behind those of many files that were dropped.
func TestNoChance(t *testing.T) {
	var b []byte
	for i := range 20 {
		b = put(b, '0', "d/"+strings.Repeat("f", i+1), "", strings.Repeat("a", 100))
	}
	once := func(again []byte) [][]int {
		a, _ := block.New(64)
		q, _ := quota.New(wide)
		s := stage.New(a)
		q, _ = s.Feed(q, b)
		q, _ = s.Feed(q, again)
		q = s.Drop(q)
		s = stage.New(a)
		s.Feed(q, b)
		var ids [][]int
		for _, r := range s.Tree().Rows {
			ids = append(ids, r.Content.Ids)
		}
		return ids
	}
	for _, again := range [][]byte{nil, put(nil, '0', "../x", "", "")} {
		want := once(again)
		for range 20 {
			if got := once(again); !reflect.DeepEqual(got, want) {
				t.Fatalf("%v, not %v", got, want)
			}
		}
	}
}

// thing is something of the model's: two names of one file are one thing.
type thing struct {
	kind   int
	mode   int
	target string
	says   int64 // how many bytes its header says
	data   string
	made   bool
}

// model lays out an archive that lies there as a whole: a map of paths, measured anew at each entry.
type model struct {
	q      quota.Ledger // what isn't the upload's
	blocks int
	at     map[string]*thing
	file   *thing
	came   int64
	place  int
	err    error
}

func (m *model) parents(s string) bool {
	for up, ok := path.Up(s); ok && up != ""; up, ok = path.Up(up) {
		if x := m.at[up]; x != nil && x.kind != api.Dir {
			return false
		}
	}
	for up, ok := path.Up(s); ok && up != ""; up, ok = path.Up(up) {
		if m.at[up] == nil {
			m.at[up] = &thing{kind: api.Dir, mode: 0o755, made: true}
		}
	}
	return true
}

// things are all of them, each once.
func (m *model) things() map[*thing]int {
	all := map[*thing]int{}
	for _, x := range m.at {
		all[x]++
	}
	return all
}

func (m *model) held() (int64, int) {
	n := int64(0)
	for x := range m.things() {
		n += x.says
	}
	return n, len(m.things())
}

func (m *model) taken() int {
	n := 0
	for x := range m.things() {
		n += (len(x.data) + 63) / 64
	}
	return n
}

func (m *model) begin(x api.Entry) api.Errno {
	parts, e := path.Clean(x.Path)
	s := strings.Join(parts, "/")
	switch {
	case e != api.OK:
		return e
	case len(parts) > m.q.Limits.Depth || len(s) > m.q.Limits.Length:
		return api.ErrQuota
	case s == "" && x.Kind == api.Dir:
		return api.OK
	}
	is := &thing{kind: x.Kind, mode: x.Mode, target: x.Link, says: x.Size}
	to, e := path.Clean(x.Link)
	if x.Kind == api.Soft {
		dir, _ := path.Up(s)
		_, e = target.Resolve(dir, x.Link)
	}
	if (x.Kind == api.Hard || x.Kind == api.Soft) && e != api.OK {
		return e
	}
	if s == "" {
		return api.ErrEmpty
	}
	if x.Kind == api.Hard {
		if is = m.at[strings.Join(to, "/")]; is == nil {
			return api.ErrMissing
		}
		if is.kind != api.File {
			return api.ErrClash
		}
	}
	if was := m.at[s]; was != nil && (was.kind == api.Dir) != (is.kind == api.Dir) {
		return api.ErrClash
	}
	if !m.parents(s) {
		return api.ErrClash
	}
	m.at[s] = is
	if x.Kind == api.File {
		m.file = is
	}
	n, k := m.held()
	if n > m.q.Limits.Bytes-m.q.Bytes-m.q.HeldBytes || k > m.q.Limits.Inodes-m.q.Inodes-m.q.HeldInodes {
		return api.ErrQuota
	}
	return api.OK
}

func (m *model) finish(read int) api.Errno {
	l := m.q.Limits
	times := func(a, b int64) *big.Int { return new(big.Int).Mul(big.NewInt(a), big.NewInt(b)) }
	if m.came > l.Allow && times(m.came-l.Allow, l.Den).Cmp(times(int64(read), l.Num)) > 0 {
		return api.ErrRatio
	}
	return api.OK
}

func (m *model) follow(ev push.Event) error {
	e := api.OK
	switch ev.Kind {
	case push.Begin:
		m.place, m.file = ev.At, nil
		e = m.begin(ev.Entry)
	case push.Data:
		m.file.data += string(ev.Data)
		m.came += int64(len(ev.Data))
		if m.taken() > m.blocks {
			e = api.ErrFull
		}
	case push.Finish:
		if m.file != nil {
			e = m.finish(ev.At)
		}
	case push.Bad:
		return ev.Err
	}
	return fault.New(e, m.place)
}

func modelOf(q quota.Ledger, blocks int, b []byte) *model {
	m := &model{q: q, blocks: blocks, at: map[string]*thing{}}
	for _, ev := range push.New().Feed(b) {
		if m.err = m.follow(ev); m.err != nil {
			m.at = map[string]*thing{}
			return m
		}
	}
	return m
}

// like holds an upload against the model.
func (m *model) like(u *upload) bool {
	n, k := m.held()
	gotN, gotK := u.stage.Held()
	if n != gotN || k != gotK || u.arena.Free() != m.blocks-m.taken() || !reflect.DeepEqual(u.err, m.err) {
		return false
	}
	rows := u.rows()
	if len(rows) != len(m.at) || !slices.Equal(u.paths(), slices.SortedFunc(maps.Keys(m.at), path.Compare)) {
		return false
	}
	numbers := map[*thing]int{}
	for _, r := range rows {
		x := m.at[r.Path]
		if number, ok := numbers[x]; ok && number != r.ID {
			return false
		}
		numbers[x] = r.ID
		if x.kind != r.Kind || x.mode != r.Mode || x.target != r.Target || x.data != r.data || x.made != r.Made || u.stage.Tree().Names(r.ID) != m.things()[x] {
			return false
		}
	}
	return true
}

// anyEntry is bytes with some entry behind them, mostly one that is taken.
func anyEntry(r *rand.Rand, b []byte) []byte {
	names := []string{"a", "b", "c", "d", "d/a", "d/b", "d/e/f", "d/e", "./a", "d//b/", "e/f/g/h", "a/x", ".", "long-name"}
	links := []string{"a", "b", "c", "d/a", "./d/b", "d", "d/e/f", "e"}
	targets := []string{"a", "../a", "d/../b", "x/y/z", "."}
	if r.Intn(40) == 0 {
		names, links, targets = []string{"../a", "/a", "a/../b", ""}, []string{"../a", "/a", ""}, []string{"../../../../../a", "/a", ""}
	}
	name := names[r.Intn(len(names))]
	h := head.Header{Name: name, Mode: int64(r.Intn(0o10000))}
	data := ""
	switch r.Intn(7) {
	case 0, 1, 2:
		h.Type = []byte{0, '0', '7'}[r.Intn(3)]
		data = strings.Repeat(string(rune('a'+r.Intn(26))), r.Intn(3)*r.Intn(100))
	case 3, 4:
		h.Type, h.Link = '1', links[r.Intn(len(links))]
	case 5:
		h.Type, h.Link = '2', targets[r.Intn(len(targets))]
	case 6:
		h.Type = '5'
	}
	if r.Intn(10) == 0 {
		b = records(b, "path", name, "mtime", "5")
		h.Name = "other"
	}
	b = putHeader(b, h, data)
	if r.Intn(200) == 0 {
		b[len(b)-1]++
	}
	return b
}

func anyLimits(r *rand.Rand) api.Limits {
	l := wide
	if r.Intn(3) == 0 {
		l.Bytes = int64(r.Intn(600))
	}
	if r.Intn(3) == 0 {
		l.Inodes = r.Intn(12)
	}
	if r.Intn(4) == 0 {
		l.Depth, l.Length = 1+r.Intn(4), 1+r.Intn(9)
	}
	if r.Intn(4) == 0 {
		l.Num, l.Den, l.Allow = int64(r.Intn(3)), int64(1+r.Intn(20)), int64(r.Intn(200))
	}
	return l
}

// P16.1 to P16.4: any archive, in any pieces, held against the model on its way and at its end.
func TestModel(t *testing.T) {
	r := rand.New(rand.NewSource(1))
	ends := map[api.Errno]int{}
	for range 3000 {
		var b []byte
		for range r.Intn(14) {
			b = anyEntry(r, b)
		}
		if r.Intn(2) == 0 {
			b = whole(b)
		}
		blocks := []int{3, 8, 20}[r.Intn(3)]
		q, _ := quota.New(anyLimits(r))
		if x, e := q.Hold(int64(r.Intn(50)), r.Intn(3)); e == api.OK {
			q = x
		}
		u := beginWith(t, q, blocks)
		read := 0
		pieces := chop(r, b)
		for _, piece := range pieces {
			u.feed(piece)
			read += len(piece)
			if r.Intn(len(pieces)) > 6 { // some of many are enough
				continue
			}
			u.sound()
			if !modelOf(q, blocks, b[:read]).like(u) {
				t.Fatalf("at %d of %d bytes: %v", read, len(b), u.err)
			}
		}
		m := modelOf(q, blocks, b)
		if !m.like(u) {
			t.Fatalf("at the end:\n%+v %v, not\n%v at %d", u.rows(), u.err, m.err, fault.Place(m.err))
		}
		ends[fault.Code(u.err)]++
		if u.err != nil {
			u.over(fault.Code(m.err), fault.Place(m.err))
		}
		u.q = u.stage.Drop(u.q)
		u.holds(0, 0, 0)
	}
	for _, e := range []api.Errno{api.OK, api.ErrFull, api.ErrMissing, api.ErrEmpty, api.ErrAbsolute, api.ErrDots, api.ErrEscape, api.ErrClash, api.ErrQuota, api.ErrRatio} {
		if ends[e] < 5 {
			t.Errorf("%v was hardly tried: %v", e, ends)
		}
	}
}

// Archives of the library's own writer, in its three forms.
func TestLibrary(t *testing.T) {
	long := strings.Repeat("long/", 30) + "name"
	for _, format := range []tar.Format{tar.FormatUSTAR, tar.FormatPAX, tar.FormatGNU} {
		var out bytes.Buffer
		w := tar.NewWriter(&out)
		write := func(h tar.Header, data string) {
			h.Format, h.Size, h.ModTime, h.Mode = format, int64(len(data)), time.Unix(1000, 0), 0o640
			if err := w.WriteHeader(&h); err != nil {
				t.Fatal(err)
			}
			if _, err := w.Write([]byte(data)); err != nil {
				t.Fatal(err)
			}
		}
		write(tar.Header{Typeflag: tar.TypeDir, Name: "./"}, "")
		write(tar.Header{Typeflag: tar.TypeReg, Name: "./" + long, Uname: "u", Gname: "g", Uid: 5, Gid: 6}, "some bytes")
		write(tar.Header{Typeflag: tar.TypeLink, Name: "./again", Linkname: "./" + long[:90]}, "")
		if err := w.Close(); err != nil {
			t.Fatal(err)
		}
		u := begin(t, wide, 4).feed(out.Bytes())
		u.over(api.ErrClash, out.Len()-1024)
		cutOff := out.Bytes()[:out.Len()-1024-blockSize]
		u = accept(t, wide, whole(cutOff))
		u.holds(10, 31, 1)
		r, _ := u.stage.Tree().Get(long)
		if u.data(long) != "some bytes" || r.Uid != 5 || r.Gid != 6 || r.User != "u" || r.Group != "g" || r.Mode != 0o640 || r.Mtime != 1000 {
			t.Errorf("%v: %+v", format, r)
		}
	}
}
