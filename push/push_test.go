package push_test

import (
	"archive/tar"
	"bytes"
	"math"
	"math/rand"
	"reflect"
	"slices"
	"strconv"
	"strings"
	"testing"
	"time"

	"pannier/api"
	"pannier/entry"
	"pannier/fault"
	"pannier/head"
	"pannier/kind"
	"pannier/pax"
	"pannier/push"
	"pannier/sum"
)

const blockSize = 512

// block is a header as a block.
func block(t testing.TB, h head.Header) []byte {
	t.Helper()
	b, e := head.Encode(h)
	if e != api.OK {
		t.Fatalf("Encode of %+v: %v", h, e)
	}
	return b
}

// patch lays a text into a header, and seals it anew.
func patch(b []byte, at int, text string) []byte {
	b = bytes.Clone(b)
	copy(b[at:], text)
	b, _ = sum.Seal(b)
	return b
}

// below is a field of so many bytes with a number below 0.
func below(n int64, width int) string {
	field := bytes.Repeat([]byte{255}, width)
	for i := width - 1; i >= width-8 && i > 0; i-- {
		field[i] = byte(n)
		n >>= 8
	}
	return string(field)
}

// above is a field of twelve bytes with a number of up to 63 bits.
func above(n int64) string {
	field := []byte{128, 0, 0, 0}
	for i := 56; i >= 0; i -= 8 {
		field = append(field, byte(n>>i))
	}
	return string(field)
}

// Where fields begin.
const (
	uidField   = 108
	gidField   = 116
	sizeField  = 124
	magicField = 257
)

func old(b []byte) []byte { return patch(b, magicField, "\x00\x00\x00\x00\x00\x00\x00\x00") }

func gnu(b []byte) []byte { return patch(b, magicField, "ustar  \x00") }

// filled is bytes with others behind them, up to whole blocks.
func filled(data string) []byte {
	b := []byte(data)
	for len(b)%blockSize != 0 {
		b = append(b, 'z')
	}
	return b
}

func plain(name string, typ byte, size int) head.Header {
	return head.Header{Name: name, Type: typ, Size: int64(size)}
}

func put(t testing.TB, name string, typ byte, data string) []byte {
	t.Helper()
	return slices.Concat(block(t, plain(name, typ, len(data))), filled(data))
}

func blanks(n int) []byte { return make([]byte, n*blockSize) }

// records are pairs of a key and a value, as bytes.
func records(t testing.TB, pairs ...string) string {
	t.Helper()
	b := ""
	for i := 0; i+1 < len(pairs); i += 2 {
		x, e := pax.Encode(pax.Record{Key: pairs[i], Value: pairs[i+1]})
		if e != api.OK {
			t.Fatalf("Encode of %.60q: %v", pairs[i], e)
		}
		b += string(x)
	}
	return b
}

func many(t testing.TB, n int) string {
	t.Helper()
	var pairs []string
	for i := range n {
		pairs = append(pairs, "k"+strconv.Itoa(i), "v")
	}
	return records(t, pairs...)
}

// trace is all that was read of an archive, the bytes of each entry taken together.
type trace struct {
	events []push.Event
	at     int
	end    error
}

// add puts events behind others; the At of bytes hangs on the pieces, and is taken as that of the last.
func (tr *trace) add(events ...push.Event) {
	for _, e := range events {
		if n := len(tr.events); e.Kind == push.Data && n > 0 && tr.events[n-1].Kind == push.Data {
			last := &tr.events[n-1]
			last.Data = append(last.Data, e.Data...)
			last.At = e.At
			continue
		}
		e.Data = bytes.Clone(e.Data)
		tr.events = append(tr.events, e)
	}
}

func read(pieces ...[]byte) trace {
	p := push.New()
	var tr trace
	for _, b := range pieces {
		tr.add(p.Feed(b)...)
	}
	tr.at, tr.end = p.At(), p.End()
	return tr
}

// cut is b in pieces of n bytes.
func cut(b []byte, n int) [][]byte { return slices.Collect(slices.Chunk(b, n)) }

// chop is b in pieces of any length, none among them.
func chop(r *rand.Rand, b []byte) [][]byte {
	var pieces [][]byte
	most := []int{2, 20, 600, 3000}[r.Intn(4)]
	for len(b) > 0 {
		n := min(r.Intn(most), len(b))
		pieces = append(pieces, b[:n])
		b = b[n:]
	}
	return append(pieces, nil)
}

func same(a, b trace) bool { return reflect.DeepEqual(a, b) }

// model reads an archive that lies there as a whole.
func model(b []byte) trace {
	var tr trace
	var ahead entry.Ahead
	blank := false
	at := 0
	bad := func(e api.Errno, place, read int) trace {
		tr.end, tr.at = fault.New(e, place), read
		tr.add(push.Event{Kind: push.Bad, Err: tr.end, At: read})
		return tr
	}
	for len(b)-at >= blockSize {
		place, x := at, b[at:at+blockSize]
		at += blockSize
		if head.Blank(x) {
			if blank {
				tr.add(push.Event{Kind: push.Done, At: at})
				tr.at = at
				return tr
			}
			blank = true
			continue
		}
		if blank {
			return bad(api.ErrArchive, place, at)
		}
		h, e := head.Decode(x)
		if e != api.OK {
			return bad(e, place, at)
		}
		class := kind.Class(h.Type)
		if class == kind.Other {
			return bad(api.ErrKind, place, at)
		}
		size := h.Size
		if class == kind.Thing {
			thing, e := entry.Make(h, ahead)
			if e != api.OK {
				return bad(e, place, at)
			}
			tr.add(push.Event{Kind: push.Begin, Entry: thing, At: at})
			ahead.Local, ahead.Name, ahead.Link = nil, "", ""
			size = thing.Size
		} else if size < 0 {
			return bad(api.ErrEntry, place, at)
		} else if size > 8192 {
			return bad(api.ErrLong, place, at)
		}
		data := b[at:]
		if int64(len(data)) > size {
			data = data[:size]
		}
		at += len(data)
		if class == kind.Thing && len(data) > 0 {
			tr.add(push.Event{Kind: push.Data, Data: bytes.Clone(data), At: at})
		}
		if int64(len(data)) < size {
			break
		}
		text, _, _ := strings.Cut(string(data), "\x00")
		switch class {
		case kind.Thing:
			tr.add(push.Event{Kind: push.Finish, At: at})
		case kind.Name:
			ahead.Name = text
		case kind.Link:
			ahead.Link = text
		default:
			list := &ahead.Local
			if class == kind.Global {
				list = &ahead.Global
			}
			more, e := pax.Decode(data)
			if e == api.OK && len(*list)+len(more) > 64 {
				e = api.ErrLong
			}
			if e != api.OK {
				return bad(e, place, at)
			}
			*list = slices.Concat(*list, more)
		}
		for at%blockSize != 0 && at < len(b) {
			at++
		}
	}
	tr.at, tr.end = len(b), fault.New(api.ErrShort, len(b))
	return tr
}

// check reads an archive whole, by single bytes and in other pieces: these events, and this end.
func check(t *testing.T, b []byte, want []push.Event, end error) {
	t.Helper()
	at := len(b)
	if n := len(want); n > 0 && want[n-1].Kind >= push.Done {
		at = want[n-1].At
	}
	all := trace{want, at, end}
	for _, n := range []int{1, 7, 511, 512, 513, 4096, len(b) + 1} {
		if got := read(cut(b, n)...); !same(got, all) {
			t.Fatalf("%d bytes in pieces of %d:\n%+v, not\n%+v", len(b), n, got, all)
		}
	}
	if got := model(b); !same(got, all) {
		t.Fatalf("the model:\n%+v, not\n%+v", got, all)
	}
}

// entries reads a whole archive: its entries alone.
func entries(t *testing.T, b []byte) []api.Entry {
	t.Helper()
	tr := read(b)
	if tr.end != nil {
		t.Fatalf("%v at %d", fault.Code(tr.end), fault.Place(tr.end))
	}
	var list []api.Entry
	for _, e := range tr.events {
		if e.Kind == push.Begin {
			list = append(list, e.Entry)
		}
	}
	return list
}

// refuse reads an archive that is none: the error, its place, and how many bytes were read by then.
func refuse(t *testing.T, b []byte, want api.Errno, place, at int) {
	t.Helper()
	for _, n := range []int{1, 100, 512, len(b) + 1} {
		tr := read(cut(b, n)...)
		if len(tr.events) == 0 {
			t.Errorf("pieces of %d: nothing, not %v", n, want)
			continue
		}
		last := tr.events[len(tr.events)-1]
		if fault.Code(tr.end) != want || fault.Place(tr.end) != place || fault.Depth(tr.end) != 1 || tr.at != at {
			t.Errorf("pieces of %d: %v at %d, %d read; not %v at %d, %d", n, fault.Code(tr.end), fault.Place(tr.end), tr.at, want, place, at)
		}
		if !reflect.DeepEqual(last, push.Event{Kind: push.Bad, Err: tr.end, At: at}) {
			t.Errorf("pieces of %d: the last event is %+v", n, last)
		}
	}
}

func file(path string, size int) api.Entry {
	return api.Entry{Path: path, Kind: api.File, Size: int64(size)}
}

// The document's numbers.
func TestNumbers(t *testing.T) {
	got := []int{push.Begin, push.Data, push.Finish, push.Done, push.Bad, push.MaxMeta}
	if !slices.Equal(got, []int{1, 2, 3, 4, 5, 8192}) {
		t.Error(got)
	}
}

// The document's example.
func TestExample(t *testing.T) {
	b := slices.Concat(put(t, "a", '0', "hi"), blanks(2))
	check(t, b, []push.Event{
		{Kind: push.Begin, Entry: file("a", 2), At: 512},
		{Kind: push.Data, Data: []byte("hi"), At: 514},
		{Kind: push.Finish, At: 514},
		{Kind: push.Done, At: 2048},
	}, nil)
}

// P12.1: as many bytes as the size says, and others up to whole blocks, whatever they are.
func TestFill(t *testing.T) {
	for _, size := range []int{0, 1, 2, 255, 510, 511, 512, 513, 1023, 1024, 1025, 5000} {
		for _, typ := range []byte{0, '0', '7'} {
			for _, with := range []byte{0, 'z', 255} {
				data := strings.Repeat("d", size)
				body := []byte(data)
				for len(body)%blockSize != 0 {
					body = append(body, with)
				}
				b := slices.Concat(block(t, plain("a", typ, size)), body, put(t, "b", '5', ""), blanks(2))
				want := []push.Event{{Kind: push.Begin, Entry: file("a", size), At: 512}}
				if size > 0 {
					want = append(want, push.Event{Kind: push.Data, Data: []byte(data), At: 512 + size})
				}
				want = append(want, push.Event{Kind: push.Finish, At: 512 + size},
					push.Event{Kind: push.Begin, Entry: api.Entry{Path: "b", Kind: api.Dir}, At: 1024 + len(body)},
					push.Event{Kind: push.Finish, At: 1024 + len(body)},
					push.Event{Kind: push.Done, At: len(b)})
				check(t, b, want, nil)
			}
		}
	}
}

// P12.1: what stands ahead of entries is filled up likewise.
func TestFillMeta(t *testing.T) {
	for _, typ := range []byte{'L', 'K'} {
		for _, size := range []int{0, 1, 511, 512, 513, 1024, 8191, 8192} {
			b := slices.Concat(put(t, "m", typ, strings.Repeat("p", size)), put(t, "a", '2', ""), blanks(2))
			want := api.Entry{Path: "a", Kind: api.Soft}
			if typ == 'L' && size > 0 {
				want.Path = strings.Repeat("p", size)
			} else if typ == 'K' {
				want.Link = strings.Repeat("p", size)
			}
			at := len(b) - 1024
			check(t, b, []push.Event{{Kind: push.Begin, Entry: want, At: at}, {Kind: push.Finish, At: at}, {Kind: push.Done, At: len(b)}}, nil)
		}
	}
	for _, typ := range []byte{'x', 'g'} {
		for _, more := range []int{0, 1, 490, 491, 492, 493, 494, 495, 496, 497, 498, 499, 500, 1000, 4000} {
			rec := records(t, "path", "b", "uname", strings.Repeat("u", more))
			b := slices.Concat(put(t, "m", typ, rec), put(t, "a", '0', ""), blanks(2))
			want := file("b", 0)
			want.User = strings.Repeat("u", more)
			at := len(b) - 1024
			check(t, b, []push.Event{{Kind: push.Begin, Entry: want, At: at}, {Kind: push.Finish, At: at}, {Kind: push.Done, At: len(b)}}, nil)
		}
		b := slices.Concat(put(t, "m", typ, ""), put(t, "a", '0', ""), blanks(2))
		check(t, b, []push.Event{{Kind: push.Begin, Entry: file("a", 0), At: 1024}, {Kind: push.Finish, At: 1024}, {Kind: push.Done, At: 2048}}, nil)
	}
}

// P12.1: kinds that take no bytes have none, whatever their size says.
func TestNoBytes(t *testing.T) {
	for _, typ := range []byte{'1', '2', '5'} {
		for _, size := range []int{0, 1, 512, 1000, 1 << 30} {
			b := slices.Concat(block(t, plain("a", typ, size)), put(t, "b", '0', "x"), blanks(2))
			check(t, b, []push.Event{
				{Kind: push.Begin, Entry: api.Entry{Path: "a", Kind: kind.Kind(typ)}, At: 512},
				{Kind: push.Finish, At: 512},
				{Kind: push.Begin, Entry: file("b", 1), At: 1024},
				{Kind: push.Data, Data: []byte("x"), At: 1025},
				{Kind: push.Finish, At: 1025},
				{Kind: push.Done, At: len(b)},
			}, nil)
		}
		b := slices.Concat(patch(block(t, plain("a", typ, 0)), sizeField, below(-5, 12)), blanks(2))
		check(t, b, []push.Event{
			{Kind: push.Begin, Entry: api.Entry{Path: "a", Kind: kind.Kind(typ)}, At: 512},
			{Kind: push.Finish, At: 512},
			{Kind: push.Done, At: len(b)},
		}, nil)
	}
}

// P12.1: a directory of the old form has the type of a file, but is none; of the other forms it is one.
func TestOldDirectory(t *testing.T) {
	x := block(t, plain("a/", '0', 5))
	b := slices.Concat(old(x), put(t, "b", '0', ""), blanks(2))
	check(t, b, []push.Event{
		{Kind: push.Begin, Entry: api.Entry{Path: "a/", Kind: api.Dir}, At: 512},
		{Kind: push.Finish, At: 512},
		{Kind: push.Begin, Entry: file("b", 0), At: 1024},
		{Kind: push.Finish, At: 1024},
		{Kind: push.Done, At: len(b)},
	}, nil)
	for _, x := range [][]byte{x, gnu(x), old(block(t, plain("a", '0', 5)))} {
		name := strings.TrimRight(string(x[:3]), "\x00")
		b := slices.Concat(x, filled("hello"), blanks(2))
		check(t, b, []push.Event{
			{Kind: push.Begin, Entry: file(name, 5), At: 512},
			{Kind: push.Data, Data: []byte("hello"), At: 517},
			{Kind: push.Finish, At: 517},
			{Kind: push.Done, At: len(b)},
		}, nil)
	}
}

// P12.1: a size that a record says is that of the entry, the header's none any more; of what stands ahead the header's is.
func TestSizeOfRecords(t *testing.T) {
	for _, typ := range []byte{'x', 'g'} {
		for _, size := range []int{0, 3, 512, 600} {
			data := strings.Repeat("d", size)
			rec := records(t, "size", strconv.Itoa(size))
			b := slices.Concat(put(t, "m", typ, rec), put(t, "l", 'L', "long"), block(t, plain("a", '0', 5)), filled(data), blanks(2))
			at := 5 * blockSize
			want := []push.Event{{Kind: push.Begin, Entry: file("long", size), At: at}}
			if size > 0 {
				want = append(want, push.Event{Kind: push.Data, Data: []byte(data), At: at + size})
			}
			check(t, b, append(want, push.Event{Kind: push.Finish, At: at + size}, push.Event{Kind: push.Done, At: len(b)}), nil)
		}
	}
}

// P12.1: sizes that never come to their end.
func TestGreatSize(t *testing.T) {
	for _, size := range []int64{1 << 33, 1 << 40, 1 << 62, math.MaxInt64} {
		x := patch(block(t, plain("a", '0', 0)), sizeField, above(size))
		thing := file("a", 0)
		thing.Size = size
		data := strings.Repeat("d", 3000)
		check(t, slices.Concat(x, []byte(data)), []push.Event{
			{Kind: push.Begin, Entry: thing, At: 512},
			{Kind: push.Data, Data: []byte(data), At: 3512},
		}, fault.New(api.ErrShort, 3512))
	}
}

// sample is an archive with a bit of everything.
func sample(t testing.TB) []byte {
	t.Helper()
	return slices.Concat(
		put(t, "g", 'g', records(t, "uname", "all", "mtime", "7")),
		put(t, "x", 'x', records(t, "path", "long/name", "uid", "5")),
		put(t, "a", '0', strings.Repeat("hello", 300)),
		put(t, "L", 'L', "gnu\x00junk"),
		put(t, "K", 'K', "link"),
		put(t, "b", '2', ""),
		put(t, "d", '5', ""),
		put(t, "e", 0, ""),
		gnu(block(t, plain("f", '7', 512))), filled(strings.Repeat("\x00", 512)),
		put(t, "h", '1', ""),
		put(t, "x", 'x', records(t, "uname", "")),
		put(t, "i", '0', "x"),
		blanks(2))
}

func TestSample(t *testing.T) {
	of := func(e api.Entry) api.Entry {
		e.User, e.Mtime = "all", 7
		return e
	}
	a, last := of(file("long/name", 1500)), of(file("i", 1))
	a.Uid, last.User = 5, ""
	want := []api.Entry{a, of(api.Entry{Path: "gnu", Link: "link", Kind: api.Soft}), of(api.Entry{Path: "d", Kind: api.Dir}),
		of(file("e", 0)), of(file("f", 512)), of(api.Entry{Path: "h", Kind: api.Hard}), last}
	if got := entries(t, sample(t)); !slices.Equal(got, want) {
		t.Errorf("%+v, not\n%+v", got, want)
	}
}

// P12.2: each event comes with the byte by which it is there, none sooner, and none later.
func TestAsItComes(t *testing.T) {
	b := sample(t)
	whole := read(b).events
	p := push.New()
	var due []push.Event
	for i := range b {
		for _, e := range p.Feed(b[i : i+1]) {
			if e.At != i+1 {
				t.Fatalf("byte %d: %+v", i, e)
			}
			if e.Kind == push.Data {
				if !bytes.Equal(e.Data, b[i:i+1]) {
					t.Fatalf("byte %d: %q", i, e.Data)
				}
				continue
			}
			due = append(due, e)
		}
		if p.At() != i+1 {
			t.Fatalf("byte %d: At is %d", i, p.At())
		}
	}
	whole = slices.DeleteFunc(whole, func(e push.Event) bool { return e.Kind == push.Data })
	if !reflect.DeepEqual(due, whole) {
		t.Errorf("%+v, not\n%+v", due, whole)
	}
}

// P12.2: bytes of an entry are told by the call with which they come.
func TestBytesAsTheyCome(t *testing.T) {
	p := push.New()
	step := func(b []byte, want ...push.Event) {
		t.Helper()
		if got := p.Feed(b); !reflect.DeepEqual(got, want) {
			t.Fatalf("%+v, not %+v", got, want)
		}
	}
	x := block(t, plain("a", '0', 600))
	step(nil)
	step(x[:511])
	step([]byte{})
	step(x[511:], push.Event{Kind: push.Begin, Entry: file("a", 600), At: 512})
	step(nil)
	step([]byte("abc"), push.Event{Kind: push.Data, Data: []byte("abc"), At: 515})
	step(nil)
	rest := bytes.Repeat([]byte("d"), 597)
	step(rest[:596], push.Event{Kind: push.Data, Data: rest[:596], At: 1111})
	step(rest[596:], push.Event{Kind: push.Data, Data: rest[596:], At: 1112}, push.Event{Kind: push.Finish, At: 1112})
	step(bytes.Repeat([]byte("z"), 423))
	step(slices.Concat([]byte("z"), block(t, plain("b", '0', 2)), []byte("h")),
		push.Event{Kind: push.Begin, Entry: file("b", 2), At: 2048}, push.Event{Kind: push.Data, Data: []byte("h"), At: 2049})
	step([]byte("iz"), push.Event{Kind: push.Data, Data: []byte("i"), At: 2050}, push.Event{Kind: push.Finish, At: 2050})
	step(slices.Concat(bytes.Repeat([]byte("z"), 509), block(t, plain("c", '0', 0)), blanks(1)),
		push.Event{Kind: push.Begin, Entry: file("c", 0), At: 3072}, push.Event{Kind: push.Finish, At: 3072})
	step(blanks(3), push.Event{Kind: push.Done, At: 4096})
	step(blanks(3))
	if p.At() != 4096 || p.End() != nil {
		t.Error(p.At(), p.End())
	}
}

// P12.2: in whatever two pieces, and in whatever pieces of one length, the same is read.
func TestPieces(t *testing.T) {
	b := slices.Concat(sample(t), []byte("behind"))
	want := read(b)
	if n := len(want.events); n == 0 || want.events[n-1].Kind != push.Done {
		t.Fatalf("%+v", want)
	}
	for i := range b {
		if got := read(b[:i], b[i:]); !same(got, want) {
			t.Fatalf("cut at %d: %+v", i, got)
		}
		if i > 0 && i < 1200 {
			if got := read(cut(b, i)...); !same(got, want) {
				t.Fatalf("pieces of %d: %+v", i, got)
			}
		}
	}
}

// P12.2: behind Done and Bad nothing more is read, in the same call and later.
func TestNothingBehind(t *testing.T) {
	bad := block(t, plain("a", '3', 0))
	for _, x := range []struct {
		b    []byte
		last int
	}{{blanks(2), push.Done}, {bad, push.Bad}, {slices.Concat(blanks(1), bad), push.Bad}, {block(t, plain("a", 'x', 9000)), push.Bad}} {
		for _, more := range [][]byte{nil, []byte("m"), blanks(3), put(t, "b", '0', "hi"), bad} {
			p := push.New()
			events := p.Feed(slices.Concat(x.b, more))
			end := p.End()
			if len(events) != 1 || events[0].Kind != x.last || events[0].At != len(x.b) || p.At() != len(x.b) {
				t.Errorf("%d %d: %+v", len(x.b), len(more), events)
			}
			for range 3 {
				if l := p.Feed(more); len(l) != 0 || p.At() != len(x.b) || p.End() != end {
					t.Errorf("%d %d, later: %+v %d %v", len(x.b), len(more), l, p.At(), p.End())
				}
			}
		}
	}
}

// P12.3: two blank headers are the end; one, and something else, is none.
func TestBlank(t *testing.T) {
	check(t, blanks(2), []push.Event{{Kind: push.Done, At: 1024}}, nil)
	check(t, blanks(5), []push.Event{{Kind: push.Done, At: 1024}}, nil)
	check(t, blanks(1), nil, fault.New(api.ErrShort, 512))
	a := put(t, "a", '0', "")
	refuse(t, slices.Concat(blanks(1), a), api.ErrArchive, 512, 1024)
	refuse(t, slices.Concat(a, blanks(1), a, blanks(2)), api.ErrArchive, 1024, 1536)
	refuse(t, slices.Concat(put(t, "a", '0', "hi"), blanks(1), a), api.ErrArchive, 1536, 2048)
	for _, i := range []int{0, 100, 148, 511} {
		x := blanks(2)
		x[512+i] = 1
		refuse(t, x, api.ErrArchive, 512, 1024)
	}
}

// P12.3: ErrArchive is told ahead of what else is wrong with a header.
func TestBlankFirst(t *testing.T) {
	a := block(t, plain("a", '0', 0))
	wrong := bytes.Clone(a)
	wrong[0]++
	for _, x := range [][]byte{wrong, patch(a, uidField, "junk"), block(t, plain("a", '3', 0)), block(t, plain("a", 'x', 9000)),
		patch(a, sizeField, below(-1, 12)), put(t, "x", 'x', "junk"), bytes.Repeat([]byte{255}, 512)} {
		refuse(t, slices.Concat(blanks(1), x), api.ErrArchive, 512, 1024)
	}
}

// P12.3: blank blocks that are an entry's bytes are no headers; a file between two blank ones is none.
func TestBlankBytes(t *testing.T) {
	b := slices.Concat(put(t, "a", '0', string(blanks(3))), put(t, "b", 'L', string(blanks(2))), put(t, "c", '0', ""), blanks(2))
	if got := entries(t, b); !slices.Equal(got, []api.Entry{file("a", 1536), file("c", 0)}) {
		t.Errorf("%+v", got)
	}
	fill := slices.Concat(block(t, plain("a", '0', 1)), []byte("x"), make([]byte, 511), blanks(2))
	check(t, fill, []push.Event{{Kind: push.Begin, Entry: file("a", 1), At: 512}, {Kind: push.Data, Data: []byte("x"), At: 513},
		{Kind: push.Finish, At: 513}, {Kind: push.Done, At: 2048}}, nil)
}

// P12.3: what stands ahead of no entry is no error.
func TestAheadOfNothing(t *testing.T) {
	for _, typ := range []byte{'x', 'g', 'L', 'K'} {
		b := slices.Concat(put(t, "m", typ, records(t, "path", "a")), blanks(2))
		check(t, b, []push.Event{{Kind: push.Done, At: 2048}}, nil)
		b = slices.Concat(put(t, "m", typ, records(t, "path", "a")), blanks(1), put(t, "a", '0', ""))
		refuse(t, b, api.ErrArchive, 1536, 2048)
	}
}

// P12.3: End at every place of an archive; it changes nothing, however often it is asked.
func TestEnd(t *testing.T) {
	b := sample(t)
	want := read(b)
	p := push.New()
	var tr trace
	for i := range b {
		for range 2 {
			e := p.End()
			if fault.Code(e) != api.ErrShort || fault.Place(e) != i || fault.Depth(e) != 1 || p.At() != i {
				t.Fatalf("at %d: %v at %d", i, fault.Code(e), fault.Place(e))
			}
		}
		tr.add(p.Feed(b[i : i+1])...)
	}
	tr.at, tr.end = p.At(), p.End()
	if !same(tr, want) || p.End() != nil {
		t.Errorf("%+v, not\n%+v", tr, want)
	}
}

// P12.3: the error of Bad stays that of End.
func TestEndOfBad(t *testing.T) {
	p := push.New()
	events := p.Feed(slices.Concat(put(t, "a", '0', ""), block(t, plain("b", '4', 0))))
	last := events[len(events)-1]
	if last.Kind != push.Bad || last.Err != fault.New(api.ErrKind, 512) || p.End() != last.Err || p.End() != last.Err {
		t.Errorf("%+v %v", last, p.End())
	}
}

// aheads is some of what may stand ahead of a header, so that its place isn't 0.
func aheads(t *testing.T) [][]byte {
	t.Helper()
	return [][]byte{nil, put(t, "a", '0', ""), put(t, "a", '0', "hi"), put(t, "a", '5', ""), put(t, "L", 'L', "long"),
		put(t, "x", 'x', records(t, "uname", "u")), put(t, "g", 'g', records(t, "uname", "u")), put(t, "a", '0', strings.Repeat("d", 1024))}
}

// refuseAll: of a header with what is behind it an error at its beginning, told when so many of its bytes came, whatever stands ahead.
func refuseAll(t *testing.T, b []byte, want api.Errno, read int) {
	t.Helper()
	for _, a := range aheads(t) {
		refuse(t, slices.Concat(a, b), want, len(a), len(a)+read)
		refuse(t, slices.Concat(a, b, blanks(2)), want, len(a), len(a)+read)
	}
}

// P12.4: Decode's errors, at the header's beginning.
func TestDecodeErrors(t *testing.T) {
	a := block(t, plain("a", '0', 0))
	for _, i := range []int{0, 99, 124, 156, 511} {
		x := bytes.Clone(a)
		x[i]++
		refuseAll(t, x, api.ErrSum, 512)
	}
	refuseAll(t, bytes.Repeat([]byte{1}, 512), api.ErrSum, 512)
	for _, at := range []int{100, uidField, gidField, sizeField, 136} {
		refuseAll(t, patch(a, at, "8"), api.ErrNumber, 512)
		refuseAll(t, patch(a, at, "\x81"), api.ErrNumber, 512)
	}
}

// P12.4: each type by its class; ErrKind of all others.
func TestTypes(t *testing.T) {
	for typ := range 256 {
		b := put(t, "a", byte(typ), "")
		if strings.IndexByte("\x0001257xgLK", byte(typ)) < 0 {
			refuse(t, slices.Concat(put(t, "b", '0', "hi"), b), api.ErrKind, 1024, 1536)
			refuse(t, block(t, plain("a", byte(typ), 1000)), api.ErrKind, 0, 512)
			continue
		}
		if tr := read(b); fault.Code(tr.end) != api.ErrShort {
			t.Errorf("type %d: %v", typ, tr.end)
		}
	}
}

// P12.4: of two errors the first one that the document names.
func TestOrder(t *testing.T) {
	other := block(t, plain("a", '3', 0))
	wrong := bytes.Clone(other)
	wrong[0]++
	refuseAll(t, wrong, api.ErrSum, 512)
	refuseAll(t, patch(other, sizeField, "9"), api.ErrNumber, 512)
	refuseAll(t, patch(other, sizeField, below(-1, 12)), api.ErrKind, 512)
	meta := block(t, plain("a", 'x', 9000))
	refuseAll(t, patch(meta, uidField, "9"), api.ErrNumber, 512)
	refuseAll(t, patch(patch(meta, sizeField, below(-1, 12)), gidField, "x"), api.ErrNumber, 512)
}

// P12.4: Make's errors, with what stands ahead.
func TestMakeErrors(t *testing.T) {
	a := block(t, plain("a", '0', 0))
	refuseAll(t, patch(a, sizeField, below(-1, 12)), api.ErrEntry, 512)
	refuseAll(t, patch(a, uidField, below(-1, 8)), api.ErrEntry, 512)
	refuseAll(t, patch(a, gidField, below(-1, 8)), api.ErrEntry, 512)
	for _, typ := range []byte{'x', 'g'} {
		for _, key := range []string{"size", "uid", "gid", "mtime"} {
			for _, value := range []string{"x", "01", "-0", "1.5", "9223372036854775808"} {
				m := put(t, "m", typ, records(t, key, value))
				refuse(t, slices.Concat(m, a), api.ErrRecord, 1024, 1536)
			}
		}
		for _, key := range []string{"size", "uid", "gid"} {
			m := put(t, "m", typ, records(t, key, "-1"))
			refuse(t, slices.Concat(m, a), api.ErrEntry, 1024, 1536)
		}
		// A record mends what the header says wrong.
		m := put(t, "m", typ, records(t, "uid", "3"))
		b := slices.Concat(m, patch(a, uidField, below(-1, 8)), blanks(2))
		want := file("a", 0)
		want.Uid = 3
		if got := entries(t, b); !slices.Equal(got, []api.Entry{want}) {
			t.Errorf("%+v", got)
		}
	}
}

// P12.4: numbers below 0 of what stands ahead aren't asked, but its size.
func TestMetaNumbers(t *testing.T) {
	x := patch(block(t, plain("L", 'L', 4)), uidField, below(-1, 8))
	b := slices.Concat(patch(x, gidField, below(-1, 8)), filled("long"), put(t, "a", '0', ""), blanks(2))
	if got := entries(t, b); !slices.Equal(got, []api.Entry{file("long", 0)}) {
		t.Errorf("%+v", got)
	}
}

// P12.4: what stands ahead of one entry doesn't stand ahead of the next, but the records for all.
func TestAheadOfOne(t *testing.T) {
	for _, typ := range []byte{'0', '1', '2', '5', 0, '7'} {
		k := kind.Kind(typ)
		link := func(s string) string {
			if k == api.Hard || k == api.Soft {
				return s
			}
			return ""
		}
		b := slices.Concat(
			put(t, "g", 'g', records(t, "gname", "all")),
			put(t, "x", 'x', records(t, "uname", "u", "uid", "4")), put(t, "L", 'L', "long"), put(t, "K", 'K', "far"),
			put(t, "a", typ, ""), put(t, "b", typ, ""),
			put(t, "L", 'L', "more"), put(t, "c", typ, ""),
			put(t, "K", 'K', "away"), put(t, "d", typ, ""),
			put(t, "g", 'g', records(t, "uname", "us")),
			put(t, "e", typ, ""), put(t, "f", typ, ""), blanks(2))
		want := []api.Entry{
			{Path: "long", Link: link("far"), Kind: k, Uid: 4, User: "u", Group: "all"},
			{Path: "b", Kind: k, Group: "all"},
			{Path: "more", Kind: k, Group: "all"},
			{Path: "d", Link: link("away"), Kind: k, Group: "all"},
			{Path: "e", Kind: k, User: "us", Group: "all"},
			{Path: "f", Kind: k, User: "us", Group: "all"},
		}
		if got := entries(t, b); !slices.Equal(got, want) {
			t.Errorf("type %d: %+v, not\n%+v", typ, got, want)
		}
	}
}

// P12.4: all that stands ahead counts, in whatever order it came.
func TestAheadTogether(t *testing.T) {
	parts := [][]byte{put(t, "x", 'x', records(t, "uname", "u")), put(t, "g", 'g', records(t, "gname", "g", "uname", "no")),
		put(t, "L", 'L', "long"), put(t, "K", 'K', "far")}
	want := api.Entry{Path: "long", Link: "far", Kind: api.Soft, User: "u", Group: "g"}
	for i := range 256 {
		order := []int{i & 3, i >> 2 & 3, i >> 4 & 3, i >> 6}
		if s := slices.Sorted(slices.Values(order)); !slices.Equal(s, []int{0, 1, 2, 3}) {
			continue
		}
		var b []byte
		for _, n := range order {
			b = append(b, parts[n]...)
		}
		b = slices.Concat(b, put(t, "a", '2', ""), blanks(2))
		if got := entries(t, b); !slices.Equal(got, []api.Entry{want}) {
			t.Errorf("%v: %+v", order, got)
		}
	}
}

// P12.5: the sizes of what stands ahead, told with the header, ahead of its bytes.
func TestMetaSize(t *testing.T) {
	for _, typ := range []byte{'x', 'g', 'L', 'K'} {
		for _, n := range []int64{-1, -512, -1 << 40, math.MinInt64} {
			refuseAll(t, patch(block(t, plain("m", typ, 0)), sizeField, below(n, 12)), api.ErrEntry, 512)
		}
		for _, n := range []int64{8193, 8704, 1 << 20, 1 << 40, math.MaxInt64} {
			refuseAll(t, patch(block(t, plain("m", typ, 0)), sizeField, above(n)), api.ErrLong, 512)
		}
	}
	// Just so many, as records: several, since one has at most 4096 bytes of text.
	rec := records(t, "a", strings.Repeat("v", 4000), "b", strings.Repeat("v", 4000))
	rec += records(t, "uname", strings.Repeat("u", 8192-len(rec)-len("nnn uname=\n")))
	if len(rec) != 8192 {
		t.Fatal(len(rec))
	}
	for _, typ := range []byte{'x', 'g'} {
		got := entries(t, slices.Concat(put(t, "m", typ, rec), put(t, "a", '0', ""), blanks(2)))
		if len(got) != 1 || got[0].Path != "a" || !strings.HasPrefix(got[0].User, "u") {
			t.Errorf("%+v", got)
		}
	}
}

// P12.5: a long text goes up to the first byte 0, and comes in the place of another one.
func TestLongTexts(t *testing.T) {
	for _, x := range []struct {
		texts []string
		want  string
	}{
		{[]string{"p"}, "p"},
		{[]string{"p\x00"}, "p"},
		{[]string{"p\x00q\x00"}, "p"},
		{[]string{"\x00q"}, ""},
		{[]string{""}, ""},
		{[]string{"p", "q"}, "q"},
		{[]string{"long", "q"}, "q"},
		{[]string{"p", ""}, ""},
		{[]string{"p", "\x00q"}, ""},
		{[]string{"p", "", "r\x00"}, "r"},
		{[]string{" p\n\xff"}, " p\n\xff"},
		{[]string{strings.Repeat("p", 700) + "\x00" + strings.Repeat("q", 700)}, strings.Repeat("p", 700)},
	} {
		var names, links []byte
		for _, s := range x.texts {
			names = append(names, put(t, "L", 'L', s)...)
			links = append(links, put(t, "K", 'K', s)...)
		}
		h := head.Header{Name: "a", Link: "b", Type: '2'}
		either := func(s, none string) string {
			if s == "" {
				return none
			}
			return s
		}
		got := entries(t, slices.Concat(names, block(t, h), links, block(t, h), blanks(2)))
		want := []api.Entry{{Path: either(x.want, "a"), Link: "b", Kind: api.Soft}, {Path: "a", Link: either(x.want, "b"), Kind: api.Soft}}
		if !slices.Equal(got, want) {
			t.Errorf("%.60q: %+v, not %+v", x.texts, got, want)
		}
	}
}

// P12.5: records that are none, told with their last byte, ahead of what fills them up.
func TestRecordErrors(t *testing.T) {
	long := "4110 k=" + strings.Repeat("v", 4102) + "\n"
	for _, typ := range []byte{'x', 'g'} {
		for _, x := range []struct {
			data string
			want api.Errno
		}{
			{"junk", api.ErrRecord}, {"9 path=a", api.ErrRecord}, {"9 path=a\n\x00", api.ErrRecord}, {"8 path=a\n", api.ErrRecord},
			{"10 path=a\n", api.ErrRecord}, {"5 =a\n", api.ErrRecord}, {"09 path=a\n", api.ErrRecord}, {"\x00", api.ErrRecord},
			{strings.Repeat("z", 512), api.ErrRecord}, {"9 path=a\n" + strings.Repeat("z", 600), api.ErrRecord},
			{long, api.ErrLong}, {many(t, 65), api.ErrLong}, {many(t, 64) + "junk", api.ErrRecord},
		} {
			b := slices.Concat(block(t, plain("m", typ, len(x.data))), filled(x.data))
			refuseAll(t, b, x.want, 512+len(x.data))
			refuseAll(t, b[:512+len(x.data)], x.want, 512+len(x.data))
		}
	}
}

// P12.5: records stand behind those that are there already, for the next entry or for all.
func TestRecordsBehind(t *testing.T) {
	for _, typ := range []byte{'x', 'g'} {
		b := slices.Concat(put(t, "m", typ, records(t, "uname", "u", "gname", "g")), put(t, "m", typ, ""),
			put(t, "m", typ, records(t, "uname", "v")), put(t, "a", '0', ""), blanks(2))
		want := file("a", 0)
		want.User, want.Group = "v", "g"
		if got := entries(t, b); !slices.Equal(got, []api.Entry{want}) {
			t.Errorf("%c: %+v", typ, got)
		}
	}
}

// P12.5: how many records there are at most, in all that stand there.
func TestMaxRecords(t *testing.T) {
	m := func(typ byte, n int) []byte { return put(t, "m", typ, many(t, n)) }
	a := put(t, "a", '0', "")
	refuseLast := func(last []byte, data string, parts ...[]byte) {
		t.Helper()
		b := slices.Concat(parts...)
		refuse(t, slices.Concat(b, last, a, blanks(2)), api.ErrLong, len(b), len(b)+512+len(data))
	}
	for _, typ := range []byte{'x', 'g'} {
		one := typ ^ 'x' ^ 'g'
		entries(t, slices.Concat(m(typ, 64), a, blanks(2)))
		entries(t, slices.Concat(m(typ, 63), m(typ, 1), m(typ, 0), a, blanks(2)))
		entries(t, slices.Concat(m(typ, 64), m(one, 64), a, blanks(2)))
		refuseLast(m(typ, 1), many(t, 1), m(typ, 64))
		refuseLast(m(typ, 2), many(t, 2), m(typ, 63))
		refuseLast(m(typ, 64), many(t, 64), m(typ, 1))
		refuseLast(m(typ, 1), many(t, 1), m(typ, 32), m(one, 64), m(typ, 32))
		refuseLast(m(typ, 1), many(t, 1), m(typ, 32), put(t, "L", 'L', "long"), m(typ, 32))
		// What is no record at all is told first.
		b := m(typ, 64)
		refuse(t, slices.Concat(b, put(t, "m", typ, many(t, 1)+"junk")), api.ErrRecord, len(b), len(b)+512+len(many(t, 1))+4)
	}
	// Behind an entry those for it count no more, those for all do.
	entries(t, slices.Concat(m('x', 64), a, m('x', 64), a, m('x', 64), a, blanks(2)))
	refuseLast(m('g', 1), many(t, 1), m('g', 64), a, a)
	refuseLast(m('g', 33), many(t, 33), m('g', 16), a, m('g', 16), a)
}

// Records for all stay from their place on: nothing ahead of it is changed, however much comes.
func TestGlobalStays(t *testing.T) {
	b := slices.Concat(put(t, "a", '0', ""), put(t, "g", 'g', records(t, "uid", "1")))
	for range 100 {
		b = slices.Concat(b, put(t, "x", 'x', records(t, "gid", "2")), put(t, "b", '0', "x"), put(t, "c", '5', ""))
	}
	b = slices.Concat(b, put(t, "g", 'g', records(t, "uid", "")), put(t, "d", '0', ""), blanks(2))
	got := entries(t, b)
	if len(got) != 202 || got[0].Uid != 0 || got[201].Uid != 0 {
		t.Fatal(len(got))
	}
	for i, e := range got[1:201] {
		if gid := int64(2 - i%2*2); e.Uid != 1 || e.Gid != gid {
			t.Fatalf("%d: %+v", i, e)
		}
	}
}

// libraryThings are entries as the library takes them.
func libraryThings(format tar.Format) []tar.Header {
	at := time.Unix(1234567890, 0)
	name := func(n int) string { return strings.Repeat("dir/", n/4) + "f" }
	list := []tar.Header{
		{Typeflag: tar.TypeDir, Name: "dir/", Mode: 0o755},
		{Typeflag: tar.TypeReg, Name: "dir/f", Mode: 0o644, Size: 5, Uid: 1000, Gid: 100, Uname: "u", Gname: "g"},
		{Typeflag: tar.TypeReg, Name: "dir/e", Mode: 0o4600},
		{Typeflag: tar.TypeReg, Name: name(180), Size: 1025},
		{Typeflag: tar.TypeLink, Name: "dir/h", Linkname: "dir/f"},
		{Typeflag: tar.TypeSymlink, Name: "dir/s", Linkname: "../x"},
	}
	if format != tar.FormatUSTAR {
		list = append(list, tar.Header{Typeflag: tar.TypeReg, Name: name(1000), Size: 512, Uid: 1 << 30},
			tar.Header{Typeflag: tar.TypeSymlink, Name: name(600), Linkname: name(700)},
			tar.Header{Typeflag: tar.TypeReg, Name: "é/ü", Size: 1})
	}
	for i := range list {
		list[i].Format, list[i].ModTime = format, at
	}
	return list
}

// What the library writes, in each of its forms, is read as it was meant.
func TestLibrary(t *testing.T) {
	kinds := map[byte]int{tar.TypeReg: api.File, tar.TypeLink: api.Hard, tar.TypeSymlink: api.Soft, tar.TypeDir: api.Dir}
	for _, format := range []tar.Format{tar.FormatUSTAR, tar.FormatPAX, tar.FormatGNU} {
		var out bytes.Buffer
		var want []api.Entry
		var datas []string
		w := tar.NewWriter(&out)
		for i, h := range libraryThings(format) {
			data := strings.Repeat(string(rune('a'+i)), int(h.Size))
			if err := w.WriteHeader(&h); err != nil {
				t.Fatal(err)
			}
			if _, err := w.Write([]byte(data)); err != nil {
				t.Fatal(err)
			}
			datas = append(datas, data)
			want = append(want, api.Entry{Path: h.Name, Link: h.Linkname, Kind: kinds[h.Typeflag], Mode: int(h.Mode), Uid: int64(h.Uid),
				Gid: int64(h.Gid), Mtime: h.ModTime.Unix(), Size: h.Size, User: h.Uname, Group: h.Gname})
		}
		if err := w.Close(); err != nil {
			t.Fatal(err)
		}
		b := out.Bytes()
		if got := entries(t, b); !slices.Equal(got, want) {
			t.Errorf("%v: %+v, not\n%+v", format, got, want)
		}
		tr := read(cut(b, 100)...)
		if !same(tr, model(b)) || tr.at != len(b) || strings.Join(datas, "") != dataOf(tr) {
			t.Errorf("%v: %d of %d, %q", format, tr.at, len(b), dataOf(tr))
		}
	}
}

func dataOf(tr trace) string {
	all := ""
	for _, e := range tr.events {
		all += string(e.Data)
	}
	return all
}

// random is an archive of any parts, wrong ones rarely.
func random(t testing.TB, r *rand.Rand) []byte {
	t.Helper()
	var b []byte
	for range r.Intn(12) {
		data := strings.Repeat("d", []int{0, 0, 1, 511, 512, 513, r.Intn(3000)}[r.Intn(7)])
		typ := "00000\x0071255LKxg"[r.Intn(15)]
		switch typ {
		case 'x', 'g':
			keys := []string{"path", "linkpath", "uname", "gname", "size", "uid", "gid", "mtime", "other"}
			data = ""
			for range r.Intn(5) {
				data += records(t, keys[r.Intn(len(keys))], []string{"", "1", "0", "600", "7"}[r.Intn(5)])
			}
			switch r.Intn(20) {
			case 0:
				data += many(t, r.Intn(66))
			case 1:
				data += []string{"junk", "\x00", records(t, "uid", "-1"), records(t, "gid", "x")}[r.Intn(4)]
			}
		case '1', '2', '5':
			data = ""
		}
		x := block(t, head.Header{Name: "n" + strconv.Itoa(r.Intn(9)) + strings.Repeat("/", r.Intn(2)), Link: "l", Prefix: strings.Repeat("p", r.Intn(3)), Type: typ, Size: int64(len(data))})
		switch r.Intn(6) {
		case 0:
			x = old(x)
		case 1:
			x = gnu(x)
		}
		switch r.Intn(60) {
		case 0:
			x = patch(x, r.Intn(500), string([]byte{byte(r.Intn(256))}))
		case 1:
			x = patch(x, 156, string([]byte{byte(r.Intn(128))}))
		case 2:
			x = patch(x, sizeField, below(-int64(r.Intn(3)), 12))
		case 3:
			x = blanks(1)
		}
		b = slices.Concat(b, x, filled(data))
	}
	b = append(b, blanks(r.Intn(4))...)
	if r.Intn(8) == 0 && len(b) > 0 {
		b[r.Intn(len(b))] ^= byte(1 + r.Intn(255))
	}
	if r.Intn(8) == 0 {
		b = b[:r.Intn(len(b)+1)]
	}
	return b
}

// P12.1 to P12.5, P1: archives of any kind, in any pieces, against the model.
func TestRandom(t *testing.T) {
	r := rand.New(rand.NewSource(1))
	ends := map[api.Errno]int{}
	for i := range 5000 {
		b := random(t, r)
		want := model(b)
		ends[fault.Code(want.end)]++
		if got := read(chop(r, b)...); !same(got, want) {
			t.Fatalf("%d: %+v, not\n%+v", i, got, want)
		}
	}
	for _, e := range []api.Errno{api.OK, api.ErrShort, api.ErrSum, api.ErrNumber, api.ErrArchive, api.ErrKind, api.ErrRecord, api.ErrEntry, api.ErrLong} {
		if ends[e] == 0 {
			t.Errorf("no archive ends with %v: %v", e, ends)
		}
	}
}

// P1: bytes that are nothing.
func TestAnyBytes(t *testing.T) {
	r := rand.New(rand.NewSource(2))
	for range 2000 {
		b := make([]byte, r.Intn(3000))
		r.Read(b)
		if got := read(chop(r, b)...); !same(got, model(b)) {
			t.Fatalf("%+v", got)
		}
	}
	if tr := read(); tr.at != 0 || len(tr.events) != 0 || tr.end != fault.New(api.ErrShort, 0) {
		t.Errorf("nothing at all: %+v", tr)
	}
}

// P2: what is handed in is neither changed nor kept: one buffer serves for all pieces, and is spoilt behind each.
func TestNotKept(t *testing.T) {
	r := rand.New(rand.NewSource(3))
	for range 300 {
		b := random(t, r)
		want := model(b)
		p := push.New()
		var tr trace
		room := make([]byte, 4096)
		for _, piece := range chop(r, b) {
			buffer := room[:len(piece)+16]
			spare := buffer[copy(buffer, piece):]
			copy(spare, "the spare room..")
			events := p.Feed(buffer[:len(piece)])
			if !bytes.Equal(buffer[:len(piece)], piece) || string(spare) != "the spare room.." {
				t.Fatal("an argument, or its spare room, was changed")
			}
			for i := range buffer {
				buffer[i] = 0x55
			}
			tr.add(events...)
		}
		tr.at, tr.end = p.At(), p.End()
		if !same(tr, want) {
			t.Fatalf("%+v, not\n%+v", tr, want)
		}
	}
}

// spoil answers a copy of events, each taken when those ahead of it were spoilt already, so that lists of one answer are held against each other.
func spoil(events []push.Event) []push.Event {
	var list []push.Event
	for _, e := range events {
		copied := e
		copied.Data = bytes.Clone(e.Data)
		list = append(list, copied)
		data := e.Data[:cap(e.Data)]
		for i := range data {
			data[i] = 0xaa
		}
	}
	events = events[:cap(events)]
	for i := range events {
		events[i] = push.Event{Kind: 77, At: -1}
	}
	return list
}

// P2: what is answered is new memory, its spare room too: spoiling it spoils no other answer, and nothing that is kept.
func TestNewMemory(t *testing.T) {
	r := rand.New(rand.NewSource(4))
	for range 300 {
		b := random(t, r)
		want := model(b)
		p, twin := push.New(), push.New()
		var tr trace
		for _, piece := range chop(r, b) {
			tr.add(spoil(p.Feed(piece))...)
			spoil(twin.Feed(piece))
		}
		tr.at, tr.end = p.At(), p.End()
		if !same(tr, want) {
			t.Fatalf("%+v, not\n%+v", tr, want)
		}
	}
}

// P2: archives that are read at the same time don't know of each other.
func TestApart(t *testing.T) {
	r := rand.New(rand.NewSource(5))
	for range 200 {
		var all [3][]byte
		var got [3]trace
		var parsers [3]*push.Parser
		for i := range all {
			all[i] = random(t, r)
			parsers[i] = push.New()
		}
		var rest [3][][]byte
		for i := range all {
			rest[i] = chop(r, all[i])
		}
		for len(rest[0])+len(rest[1])+len(rest[2]) > 0 {
			i := r.Intn(3)
			if len(rest[i]) > 0 {
				got[i].add(parsers[i].Feed(rest[i][0])...)
				rest[i] = rest[i][1:]
			}
		}
		for i := range all {
			got[i].at, got[i].end = parsers[i].At(), parsers[i].End()
			if !same(got[i], model(all[i])) {
				t.Fatalf("%+v, not\n%+v", got[i], model(all[i]))
			}
		}
	}
}

// Many entries in one piece, and one entry in many, are read in time that is as their bytes.
func TestMuch(t *testing.T) {
	one := put(t, "a", '0', "")
	b := slices.Concat(bytes.Repeat(one, 40000), blanks(2))
	if tr := read(b); len(tr.events) != 80001 || tr.end != nil {
		t.Error(len(tr.events), tr.end)
	}
	p := push.New()
	p.Feed(block(t, plain("a", '0', 1<<21)))
	n := 0
	for range 1 << 21 {
		for _, e := range p.Feed([]byte{'d'}) {
			n += len(e.Data)
		}
	}
	if n != 1<<21 || p.At() != n+512 {
		t.Error(n, p.At())
	}
}

// FuzzFeed: headers are sealed first, as far as they lie at whole blocks, so that more than sums is tried.
func FuzzFeed(f *testing.F) {
	f.Add(sample(f), 7, true)
	f.Add(slices.Concat(blanks(1), put(f, "a", '0', "hi")), 100, false)
	f.Add(put(f, "x", 'x', "junk"), 512, true)
	f.Fuzz(func(t *testing.T, b []byte, n int, seal bool) {
		b = bytes.Clone(b)
		for i := 0; seal && i+blockSize <= len(b); i += blockSize {
			if x := b[i : i+blockSize]; !head.Blank(x) {
				sealed, _ := sum.Seal(x)
				copy(x, sealed)
			}
		}
		if got := read(cut(b, max(1, n))...); !same(got, model(b)) {
			t.Fatalf("%+v, not\n%+v", got, model(b))
		}
	})
}
