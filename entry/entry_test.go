package entry_test

import (
	"archive/tar"
	"bytes"
	"io"
	"math"
	"math/big"
	"math/rand"
	"slices"
	"strings"
	"testing"
	"time"

	"pannier/api"
	"pannier/entry"
	"pannier/head"
	"pannier/kind"
	"pannier/pax"
)

func check(t *testing.T, h head.Header, a entry.Ahead, want api.Entry) {
	t.Helper()
	if e, f := entry.Make(h, a); e != want || f != api.OK {
		t.Errorf("Make of %+v, %+v:\n%+v %v, not\n%+v", h, a, e, f, want)
	}
}

func refuse(t *testing.T, h head.Header, a entry.Ahead, want api.Errno) {
	t.Helper()
	if e, f := entry.Make(h, a); e != (api.Entry{}) || f != want {
		t.Errorf("Make of %+v, %+v: %+v %v, not %v", h, a, e, f, want)
	}
}

// records are pairs of a key and a value.
func records(pairs ...string) []pax.Record {
	var list []pax.Record
	for i := 0; i+1 < len(pairs); i += 2 {
		list = append(list, pax.Record{Key: pairs[i], Value: pairs[i+1]})
	}
	return list
}

func local(pairs ...string) entry.Ahead { return entry.Ahead{Local: records(pairs...)} }

func global(pairs ...string) entry.Ahead { return entry.Ahead{Global: records(pairs...)} }

// full is a header in which every field is another one's.
func full(typ byte) head.Header {
	return head.Header{Form: head.Ustar, Name: "n", Link: "l", Prefix: "p", User: "u", Group: "g", Type: typ,
		Mode: 0o755, Uid: 11, Gid: 12, Size: 13, Mtime: 14}
}

// The entry that full is by itself, if it is a file.
func fullFile() api.Entry {
	return api.Entry{Path: "p/n", Kind: api.File, Mode: 0o755, Uid: 11, Gid: 12, Size: 13, Mtime: 14, User: "u", Group: "g"}
}

// one is a field as records tell it: its key, its value as it stands in an entry, that of full, and two others.
type one struct {
	key        string
	of         func(api.Entry) any
	header     any
	first      string
	firstWant  any
	second     string
	secondWant any
	typ        byte
}

func fields() []one {
	return []one{
		{"path", func(e api.Entry) any { return e.Path }, "p/n", "a", "a", "b/c", "b/c", '0'},
		{"linkpath", func(e api.Entry) any { return e.Link }, "l", "a", "a", "b/c", "b/c", '2'},
		{"uname", func(e api.Entry) any { return e.User }, "u", "a", "a", "b/c", "b/c", '0'},
		{"gname", func(e api.Entry) any { return e.Group }, "g", "a", "a", "b/c", "b/c", '5'},
		{"size", func(e api.Entry) any { return e.Size }, int64(13), "0", int64(0), "9223372036854775807", int64(math.MaxInt64), '7'},
		{"uid", func(e api.Entry) any { return e.Uid }, int64(11), "0", int64(0), "9223372036854775807", int64(math.MaxInt64), '1'},
		{"gid", func(e api.Entry) any { return e.Gid }, int64(12), "0", int64(0), "9223372036854775807", int64(math.MaxInt64), '5'},
		{"mtime", func(e api.Entry) any { return e.Mtime }, int64(14), "0", int64(0), "-9223372036854775808", int64(math.MinInt64), '0'},
	}
}

// The document's example.
func TestExample(t *testing.T) {
	check(t, head.Header{Name: "a", Type: '0'}, local("path", "b/c"), api.Entry{Path: "b/c", Kind: api.File})
}

// P9.1: of each key: Local's last one, else Global's last one, else none; an empty one is none, and Local's hides Global's.
func TestValue(t *testing.T) {
	for _, f := range fields() {
		k, a, b := f.key, f.first, f.second
		for _, c := range []struct {
			name          string
			global, local []pax.Record
			want          any
		}{
			{"none", nil, nil, f.header},
			{"others", records(k+"x", a, "", b), records(strings.ToUpper(k), a, k+" ", b, k[1:], a), f.header},
			{"local", nil, records(k, a), f.firstWant},
			{"the last local", nil, records(k, b, "x", "y", k, a, "z", ""), f.firstWant},
			{"the last local, empty", nil, records(k, b, k, ""), f.header},
			{"the last local behind an empty one", nil, records(k, "", k, b), f.secondWant},
			{"global", records(k, b), nil, f.secondWant},
			{"the last global", records(k, a, k, b), records("x", a), f.secondWant},
			{"the last global, empty", records(k, a, k, ""), nil, f.header},
			{"local ahead of global", records(k, a), records(k, b), f.secondWant},
			{"empty local ahead of global", records(k, a), records(k, ""), f.header},
			{"local ahead of empty global", records(k, ""), records(k, b), f.secondWant},
			{"both empty", records(k, ""), records(k, ""), f.header},
		} {
			e, code := entry.Make(full(f.typ), entry.Ahead{Global: c.global, Local: c.local})
			if got := f.of(e); got != c.want || code != api.OK {
				t.Errorf("%s, %s: %v %v, not %v", k, c.name, got, code, c.want)
			}
		}
	}
}

// P9.1 to P9.3: a record changes its own field and no other.
func TestOwnField(t *testing.T) {
	want := fullFile()
	check(t, full('0'), entry.Ahead{}, want)
	want.Path, want.User, want.Group = "P", "U", "G"
	want.Size, want.Uid, want.Gid, want.Mtime = 1, 2, 3, 4
	all := []string{"path", "P", "linkpath", "L", "uname", "U", "gname", "G", "size", "1", "uid", "2", "gid", "3", "mtime", "4"}
	check(t, full('0'), local(all...), want)
	check(t, full('0'), global(all...), want)
	want.Kind, want.Size, want.Link = api.Hard, 0, "L"
	check(t, full('1'), local(all...), want)
	for _, key := range []string{"mode", "atime", "ctime", "charset", "comment", "hdrcharset", "name", "link", "kind", "GNU.sparse.name"} {
		check(t, full('0'), local(key, "7"), fullFile())
	}
}

// P9.2: the kind of every type; ErrKind of those that are none, whatever else is wrong.
func TestKinds(t *testing.T) {
	wrong := local("uid", "x")
	for n := range 256 {
		h := full(byte(n))
		want := kind.Kind(h.Type)
		if want == 0 {
			refuse(t, h, entry.Ahead{}, api.ErrKind)
			refuse(t, h, wrong, api.ErrKind)
			h.Uid, h.Size = -1, -1
			refuse(t, h, entry.Ahead{}, api.ErrKind)
			continue
		}
		if e, f := entry.Make(h, entry.Ahead{}); e.Kind != want || f != api.OK {
			t.Errorf("type %q: %d %v", h.Type, e.Kind, f)
		}
	}
	for _, typ := range []byte("xgLK346S\xff") {
		refuse(t, full(typ), entry.Ahead{}, api.ErrKind)
	}
}

// P9.2: Mode is the lowest twelve bits.
func TestMode(t *testing.T) {
	for mode, want := range map[int64]int{
		0: 0, 1: 1, 0o644: 0o644, 0o7777: 0o7777, 0o10000: 0, 0o100755: 0o755, 0o107777: 0o7777, 0o177777: 0o7777,
		-1: 0o7777, -0o10000: 0, -0o7777: 1, 1<<32 + 5: 5, math.MaxInt64: 0o7777, math.MinInt64: 0, math.MinInt64 + 0o4001: 0o4001,
	} {
		for _, typ := range []byte("0125") {
			h := head.Header{Name: "a", Type: typ, Mode: mode}
			if e, f := entry.Make(h, local("mode", "7")); e.Mode != want || f != api.OK {
				t.Errorf("mode %o: %o %v", mode, e.Mode, f)
			}
		}
	}
}

// P9.2: records are ahead of long texts, and these of the header's.
func TestTexts(t *testing.T) {
	type side struct{ global, local, long, header, want string }
	for _, s := range []side{
		{"", "", "", "h", "h"},
		{"", "", "", "", ""},
		{"", "", "n", "h", "n"},
		{"", "", "n", "", "n"},
		{"", "r", "n", "h", "r"},
		{"r", "", "n", "h", "r"},
		{"r", "s", "n", "h", "s"},
		{"", "r", "", "h", "r"},
		{"", "\x00", "n", "h", "\x00"},
		{"", "", "\x00n", "h", "\x00n"},
		{"", "", " ", "h", " "},
	} {
		a := entry.Ahead{Name: s.long}
		b := entry.Ahead{Link: s.long}
		if s.global != "" {
			a.Global, b.Global = records("path", s.global), records("linkpath", s.global)
		}
		if s.local != "" {
			a.Local, b.Local = records("path", s.local), records("linkpath", s.local)
		}
		check(t, head.Header{Name: s.header, Type: '0'}, a, api.Entry{Kind: api.File, Path: s.want})
		for _, typ := range []byte("12") {
			check(t, head.Header{Name: "a", Link: s.header, Type: typ}, b, api.Entry{Kind: kind.Kind(typ), Path: "a", Link: s.want})
		}
	}
	hidden := entry.Ahead{Name: "n", Link: "k", Global: records("path", "g", "linkpath", "g"), Local: records("path", "", "linkpath", "")}
	check(t, head.Header{Name: "a", Link: "b", Type: '2'}, hidden, api.Entry{Kind: api.Soft, Path: "n", Link: "k"})
	check(t, head.Header{Name: "a", Link: "b", Type: '2', User: "u", Group: "g"}, entry.Ahead{Name: "n"},
		api.Entry{Kind: api.Soft, Path: "n", Link: "b", User: "u", Group: "g"})
}

// P9.2: of the header it is the whole name, with its prefix.
func TestFull(t *testing.T) {
	check(t, head.Header{Form: head.Ustar, Name: "n", Prefix: "p/q", Type: '0'}, entry.Ahead{}, api.Entry{Kind: api.File, Path: "p/q/n"})
	check(t, head.Header{Form: head.Ustar, Prefix: "p", Type: '0'}, entry.Ahead{}, api.Entry{Kind: api.File, Path: "p/"})
	check(t, head.Header{Form: head.Ustar, Name: "n", Prefix: "p", Type: '0'}, entry.Ahead{Name: "m"}, api.Entry{Kind: api.File, Path: "m"})
	check(t, head.Header{Form: head.Ustar, Name: "n", Prefix: "p", Type: '0'}, local("path", "m"), api.Entry{Kind: api.File, Path: "m"})
}

// P9.3: a number that is none is refused, of every kind, even where the field would be 0; ahead of ErrEntry.
func TestNumbersRefused(t *testing.T) {
	for _, key := range []string{"size", "uid", "gid", "mtime"} {
		for _, s := range []string{"x", " ", "-", "+1", "01", "-0", "1 ", " 1", "1.5", "0x1", "1_0", "1\x00", "9223372036854775808", "-9223372036854775809"} {
			for _, typ := range []byte("\x0001257") {
				refuse(t, full(typ), local(key, s), api.ErrRecord)
				refuse(t, full(typ), global(key, s), api.ErrRecord)
				h := full(typ)
				h.Uid, h.Gid, h.Size = -1, -1, -1
				refuse(t, h, local(key, s), api.ErrRecord)
			}
			check(t, full('0'), entry.Ahead{Global: records(key, s), Local: records(key, "")}, fullFile())
			check(t, full('0'), local(key, s, key, ""), fullFile())
		}
	}
}

// P9.3: a record takes the place of a header's number, even of one that couldn't be.
func TestNumbers(t *testing.T) {
	h := head.Header{Form: head.Gnu, Name: "a", Type: '0', Uid: -1, Gid: -2, Size: -3, Mtime: -4}
	check(t, h, local("uid", "1", "gid", "2", "size", "3"), api.Entry{Path: "a", Kind: api.File, Uid: 1, Gid: 2, Size: 3, Mtime: -4})
	check(t, h, local("uid", "0", "gid", "0", "size", "0", "mtime", "0"), api.Entry{Path: "a", Kind: api.File})
	top := head.Header{Name: "a", Type: '0', Uid: math.MaxInt64, Gid: math.MaxInt64, Size: math.MaxInt64, Mtime: math.MinInt64}
	check(t, top, entry.Ahead{}, api.Entry{Path: "a", Kind: api.File, Uid: math.MaxInt64, Gid: math.MaxInt64, Size: math.MaxInt64, Mtime: math.MinInt64})
}

// P9.4: a file of the old form is a directory, if the path that it has in the end is one of a directory.
func TestOldDirs(t *testing.T) {
	for _, typ := range []byte("\x0007") {
		for _, c := range []struct {
			name string
			a    entry.Ahead
			path string
			dir  bool
		}{
			{"d/", entry.Ahead{}, "d/", true},
			{"d//", entry.Ahead{}, "d//", true},
			{"/", entry.Ahead{}, "/", true},
			{"d", entry.Ahead{}, "d", false},
			{"", entry.Ahead{}, "", false},
			{"/d", entry.Ahead{}, "/d", false},
			{"d/e", entry.Ahead{}, "d/e", false},
			{"d/\\", entry.Ahead{}, "d/\\", false},
			{"d/", local("path", "e"), "e", false},
			{"d/", local("path", ""), "d/", true},
			{"d", local("path", "e/"), "e/", true},
			{"d", global("path", "e/"), "e/", true},
			{"d", entry.Ahead{Name: "e/"}, "e/", true},
			{"d/", entry.Ahead{Name: "e"}, "e", false},
			{"d", entry.Ahead{Name: "e", Local: records("path", "f/")}, "f/", true},
		} {
			h := head.Header{Form: head.Old, Name: c.name, Type: typ, Size: 4, Link: "l"}
			want := api.Entry{Path: c.path, Kind: api.File, Size: 4}
			if c.dir {
				want.Kind, want.Size = api.Dir, 0
			}
			check(t, h, c.a, want)
			want.Kind, want.Size = api.File, 4
			for _, form := range []int{head.Ustar, head.Gnu, 3, -1, math.MaxInt, math.MinInt} {
				h.Form = form
				check(t, h, c.a, want)
			}
		}
	}
}

// P9.4: links of the old form stay what they are, wherever their paths end.
func TestOldLinks(t *testing.T) {
	check(t, head.Header{Name: "d/", Type: '1', Link: "l/", Size: 4}, entry.Ahead{}, api.Entry{Path: "d/", Kind: api.Hard, Link: "l/"})
	check(t, head.Header{Name: "d/", Type: '2', Link: "l/", Size: 4}, entry.Ahead{}, api.Entry{Path: "d/", Kind: api.Soft, Link: "l/"})
	check(t, head.Header{Name: "d", Type: '5', Link: "l/", Size: 4}, entry.Ahead{}, api.Entry{Path: "d", Kind: api.Dir})
}

// P9.4: files alone have a size, and names that point elsewhere alone have a link, wherever these come from.
func TestSettled(t *testing.T) {
	for _, typ := range []byte("\x0001257") {
		for _, a := range []entry.Ahead{
			{},
			{Link: "k"},
			local("size", "5", "linkpath", "r"),
			global("size", "5", "linkpath", "r"),
		} {
			e, f := entry.Make(full(typ), a)
			file, points := e.Kind == api.File, e.Kind == api.Hard || e.Kind == api.Soft
			if f != api.OK || (e.Size != 0) != file || (e.Link != "") != points {
				t.Errorf("type %q: %+v %v", typ, e, f)
			}
		}
	}
}

// P9.4: Size, Uid and Gid aren't below 0; a time may be, and so may a size that isn't the entry's in the end.
func TestBelow(t *testing.T) {
	for _, typ := range []byte("\x0001257") {
		for _, n := range []int64{-1, -512, math.MinInt64} {
			for _, key := range []string{"uid", "gid"} {
				refuse(t, full(typ), local(key, big.NewInt(n).String()), api.ErrEntry)
				refuse(t, full(typ), global(key, big.NewInt(n).String()), api.ErrEntry)
			}
			h := full(typ)
			h.Uid = n
			refuse(t, h, entry.Ahead{}, api.ErrEntry)
			h = full(typ)
			h.Gid = n
			refuse(t, h, entry.Ahead{}, api.ErrEntry)
			h = full(typ)
			h.Mtime = n
			if e, f := entry.Make(h, entry.Ahead{}); e.Mtime != n || f != api.OK {
				t.Errorf("the time %d: %+v %v", n, e, f)
			}
		}
	}
	h := head.Header{Name: "d", Type: '0', Size: -1}
	refuse(t, h, entry.Ahead{}, api.ErrEntry)
	refuse(t, head.Header{Name: "d", Type: '0'}, local("size", "-1"), api.ErrEntry)
	for _, typ := range []byte("125") {
		h.Type = typ
		check(t, h, local("size", "-2"), api.Entry{Path: "d", Kind: kind.Kind(typ)})
		check(t, h, entry.Ahead{}, api.Entry{Path: "d", Kind: kind.Kind(typ)})
	}
	check(t, head.Header{Name: "d/", Size: -1}, entry.Ahead{}, api.Entry{Path: "d/", Kind: api.Dir})
	refuse(t, head.Header{Form: head.Ustar, Name: "d/", Size: -1}, entry.Ahead{}, api.ErrEntry)
}

// P9.5: less than a block, and up to a multiple of 512.
func TestPad(t *testing.T) {
	checkPad := func(size int64) {
		t.Helper()
		n := entry.Pad(size)
		if n < 0 || n > 511 || (size+int64(n))%512 != 0 {
			t.Errorf("Pad of %d: %d", size, n)
		}
	}
	for size := range int64(3000) {
		checkPad(size)
	}
	for bit := range 63 {
		for d := int64(-600); d <= 600; d++ {
			if size := int64(1)<<bit + d; size >= 0 && size <= 1<<62 {
				checkPad(size)
			}
		}
	}
	for size, want := range map[int64]int{0: 0, 1: 511, 511: 1, 512: 0, 513: 511, 1<<62 - 1: 1, 1 << 62: 0, 1<<62 - 511: 511} {
		if got := entry.Pad(size); got != want {
			t.Errorf("Pad of %d: %d, not %d", size, got, want)
		}
	}
}

// P1: Pad ends at all numbers.
func TestPadAny(t *testing.T) {
	for _, size := range []int64{-1, -511, -512, -513, math.MinInt64, math.MinInt64 + 1, math.MaxInt64, 1<<62 + 1} {
		entry.Pad(size)
	}
}

// model tells the promises once more, one field after the other.
func model(h head.Header, a entry.Ahead) (api.Entry, api.Errno) {
	value := func(key string) (string, bool) {
		all := map[string]string{}
		for _, r := range append(slices.Clone(a.Global), a.Local...) {
			all[r.Key] = r.Value
		}
		return all[key], all[key] != ""
	}
	e := api.Entry{User: h.User, Group: h.Group, Link: h.Link, Path: h.Name, Size: h.Size, Uid: h.Uid, Gid: h.Gid, Mtime: h.Mtime}
	switch h.Type {
	case 0, '0', '7':
		e.Kind = 1
	case '1', '2':
		e.Kind = int(h.Type-'1') + 2
	case '5':
		e.Kind = 4
	default:
		return api.Entry{}, api.ErrKind
	}
	e.Mode = int(uint64(h.Mode) % 4096)
	if h.Prefix != "" {
		e.Path = h.Prefix + "/" + h.Name
	}
	if a.Name != "" {
		e.Path = a.Name
	}
	if a.Link != "" {
		e.Link = a.Link
	}
	for key, to := range map[string]*string{"path": &e.Path, "linkpath": &e.Link, "uname": &e.User, "gname": &e.Group} {
		if v, ok := value(key); ok {
			*to = v
		}
	}
	for key, to := range map[string]*int64{"size": &e.Size, "uid": &e.Uid, "gid": &e.Gid, "mtime": &e.Mtime} {
		if v, ok := value(key); ok {
			n, good := new(big.Int).SetString(v, 10)
			if !good || n.String() != v || !n.IsInt64() {
				return api.Entry{}, api.ErrRecord
			}
			*to = n.Int64()
		}
	}
	if h.Form == 0 && e.Kind == 1 && e.Path != "" && e.Path[len(e.Path)-1] == '/' {
		e.Kind = 4
	}
	if e.Kind != 1 {
		e.Size = 0
	}
	if e.Kind == 1 || e.Kind == 4 {
		e.Link = ""
	}
	if min(e.Size, e.Uid, e.Gid) < 0 {
		return api.Entry{}, api.ErrEntry
	}
	return e, api.OK
}

func pick[T any](r *rand.Rand, list ...T) T { return list[r.Intn(len(list))] }

func anyRecords(r *rand.Rand) []pax.Record {
	list := make([]pax.Record, 0, 8)
	for range r.Intn(5) {
		key := pick(r, "path", "linkpath", "uname", "gname", "size", "uid", "gid", "mtime", "", "=", "x")
		value := pick(r, "", "", "a", "b/", "/", "\x00", "0", "1", "77", "-1", "-9223372036854775808")
		if len(key) > 2 && (key == "size" || key[1:] == "id" || key == "mtime") && r.Intn(4) > 0 {
			value = pick(r, "", "0", "5", "9223372036854775807", "-3")
		}
		list = append(list, pax.Record{Key: key, Value: value})
	}
	return list
}

func anyNumber(r *rand.Rand) int64 {
	return pick(r, 0, 1, 7, 0o755, 0o100644, math.MaxInt64, int64(r.Uint64()>>1), int64(r.Uint64()>>1), pick(r, 3, -1, math.MinInt64, int64(r.Uint64())))
}

func anyHeader(r *rand.Rand) head.Header {
	return head.Header{Form: pick(r, head.Old, head.Ustar, head.Gnu, -1), Name: pick(r, "", "a", "d/", "/", "\xff"), Link: pick(r, "", "l", "l/"),
		Prefix: pick(r, "", "", "p"), User: pick(r, "", "u"), Group: pick(r, "", "g"),
		Type: pick(r, 0, '0', '0', '7', '1', '2', '5', 'x', byte(r.Intn(256))),
		Mode: anyNumber(r), Uid: anyNumber(r), Gid: anyNumber(r), Size: anyNumber(r), Mtime: anyNumber(r)}
}

// P9.1 to P9.4, P1 and P2: whatever is handed in, the answer is the promises', twice the same, and what was handed in stays.
func TestAny(t *testing.T) {
	r := rand.New(rand.NewSource(9))
	codes := map[api.Errno]int{}
	for range 60000 {
		h := anyHeader(r)
		a := entry.Ahead{Global: anyRecords(r), Local: anyRecords(r), Name: pick(r, "", "", "n", "n/"), Link: pick(r, "", "k")}
		g, l := slices.Clone(a.Global[:8]), slices.Clone(a.Local[:8])
		want, code := model(h, a)
		codes[code]++
		for range 2 {
			if e, f := entry.Make(h, a); e != want || f != code {
				t.Fatalf("Make of %+v, %+v:\n%+v %v, not\n%+v %v", h, a, e, f, want, code)
			}
		}
		if !slices.Equal(g, a.Global[:8]) || !slices.Equal(l, a.Local[:8]) {
			t.Fatal("the records changed")
		}
	}
	for _, code := range []api.Errno{api.OK, api.ErrKind, api.ErrRecord, api.ErrEntry} {
		if codes[code] < 500 {
			t.Errorf("%v: only %d", code, codes[code])
		}
	}
}

// P2: an answer stays as it was, when the lists that were handed in change.
func TestNotKept(t *testing.T) {
	a := entry.Ahead{Global: records("uname", "u", "uid", "3"), Local: records("path", "a", "size", "2")}
	e, _ := entry.Make(head.Header{Type: '0'}, a)
	clear(a.Global)
	clear(a.Local)
	if e != (api.Entry{Path: "a", Kind: api.File, Uid: 3, Size: 2, User: "u"}) {
		t.Errorf("the entry changed: %+v", e)
	}
	check(t, head.Header{Type: '0'}, a, api.Entry{Kind: api.File})
}

// written: the library's archive of headers, each with as many bytes as its size says.
func written(t *testing.T, list []*tar.Header) []byte {
	t.Helper()
	var b bytes.Buffer
	w := tar.NewWriter(&b)
	for _, h := range list {
		if err := w.WriteHeader(h); err != nil {
			t.Fatal(err)
		}
		if _, err := w.Write(make([]byte, h.Size)); err != nil {
			t.Fatal(err)
		}
	}
	if err := w.Close(); err != nil {
		t.Fatal(err)
	}
	return b.Bytes()
}

// readAll: the entries of an archive, as its headers and what stands ahead of them say.
func readAll(t *testing.T, b []byte) []api.Entry {
	t.Helper()
	var list []api.Entry
	var a entry.Ahead
	for !head.Blank(b[:512]) {
		h, f := head.Decode(b[:512])
		if f != api.OK {
			t.Fatal(f)
		}
		b = b[512:]
		body := b[:h.Size]
		size := h.Size
		text, _, _ := strings.Cut(string(body), "\x00")
		switch kind.Class(h.Type) {
		case kind.Local:
			a.Local, f = pax.Decode(body)
		case kind.Name:
			a.Name = text
		case kind.Link:
			a.Link = text
		default:
			var e api.Entry
			e, f = entry.Make(h, a)
			list, a, size = append(list, e), entry.Ahead{}, e.Size
		}
		if f != api.OK {
			t.Fatal(f)
		}
		b = b[size+int64(entry.Pad(size)):]
	}
	return list
}

// theirs: what the library's reader says of an archive.
func theirs(t *testing.T, b []byte) []api.Entry {
	t.Helper()
	kinds := map[byte]int{tar.TypeReg: api.File, tar.TypeLink: api.Hard, tar.TypeSymlink: api.Soft, tar.TypeDir: api.Dir}
	var list []api.Entry
	r := tar.NewReader(bytes.NewReader(b))
	for {
		h, err := r.Next()
		if err == io.EOF {
			return list
		}
		if err != nil {
			t.Fatal(err)
		}
		list = append(list, api.Entry{Path: h.Name, Link: h.Linkname, Kind: kinds[h.Typeflag], Mode: int(h.Mode), Uid: int64(h.Uid), Gid: int64(h.Gid),
			Mtime: h.ModTime.Unix(), Size: h.Size, User: h.Uname, Group: h.Gname})
	}
}

// P9.1 to P9.5: archives of the library's writer, in all forms, are read as its reader reads them.
func TestLibrary(t *testing.T) {
	long := strings.Repeat("long/", 60) + "name"
	for form, names := range map[tar.Format][]string{
		tar.FormatUSTAR: {"a", "b/c", strings.Repeat("p", 120) + "/" + strings.Repeat("n", 90)},
		tar.FormatPAX:   {"a", "b/c", long, "é", long + "é"},
		tar.FormatGNU:   {"a", "b/c", long, "é"},
	} {
		var list []*tar.Header
		for i, name := range names {
			at := time.Unix(int64(1000000*i), 0)
			size := []int64{0, 1, 511, 512, 513}[i]
			list = append(list,
				&tar.Header{Format: form, Typeflag: tar.TypeReg, Name: name, Mode: 0o4755, Uid: i, Gid: 1000, Size: size, ModTime: at, Uname: "user", Gname: "group"},
				&tar.Header{Format: form, Typeflag: tar.TypeDir, Name: name + "/", Mode: 0o700, ModTime: at})
			if len(name) > 200 && form == tar.FormatUSTAR {
				continue
			}
			list = append(list,
				&tar.Header{Format: form, Typeflag: tar.TypeLink, Name: "h", Linkname: name, ModTime: at, Uname: "user"},
				&tar.Header{Format: form, Typeflag: tar.TypeSymlink, Name: name, Linkname: "../" + name, ModTime: at, Gname: "group"})
		}
		if form == tar.FormatPAX {
			list = append(list, &tar.Header{Format: form, Typeflag: tar.TypeReg, Name: "z", Uid: 1 << 40, Gid: 1 << 50, ModTime: time.Unix(-5, 0), Uname: strings.Repeat("u", 60), Gname: "é"})
		}
		b := written(t, list)
		if got, want := readAll(t, b), theirs(t, b); !slices.Equal(got, want) || len(got) != len(list) {
			t.Errorf("%v:\n%+v, not\n%+v", form, got, want)
		}
	}
}
