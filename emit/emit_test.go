package emit_test

import (
	"archive/tar"
	"bytes"
	"fmt"
	"math"
	"math/rand"
	"slices"
	"strconv"
	"strings"
	"testing"

	"pannier/api"
	"pannier/emit"
	"pannier/fault"
	"pannier/push"
)

// most is how many bytes a key and its value have together at most (layer 7).
const most = 4096

var kinds = []int{api.File, api.Hard, api.Soft, api.Dir}

func letters(n int) string { return strings.Repeat("a", n) }

// plain is an entry of a kind that can be written, all else zero.
func plain(kind int) api.Entry {
	e := api.Entry{Path: "p", Kind: kind}
	if kind == api.Hard || kind == api.Soft {
		e.Link = "l"
	}
	return e
}

// with is an entry, changed.
func with(e api.Entry, change func(*api.Entry)) api.Entry {
	change(&e)
	return e
}

// fields is a header as the standard lays it out, written here without the lower layers.
type fields struct {
	name, prefix, link, user, group string
	typ                             byte
	mode, uid, gid, size, mtime     int64
}

func (f fields) block() []byte {
	b := make([]byte, 512)
	put := func(at int, s string) { copy(b[at:], s) }
	put(0, f.name)
	put(100, fmt.Sprintf("%07o", f.mode))
	put(108, fmt.Sprintf("%07o", f.uid))
	put(116, fmt.Sprintf("%07o", f.gid))
	put(124, fmt.Sprintf("%011o", f.size))
	put(136, fmt.Sprintf("%011o", f.mtime))
	put(148, "        ")
	b[156] = f.typ
	put(157, f.link)
	put(257, "ustar\x0000")
	put(265, f.user)
	put(297, f.group)
	put(345, f.prefix)
	sum := 0
	for _, x := range b {
		sum += int(x)
	}
	put(148, fmt.Sprintf("%06o\x00 ", sum))
	return b
}

// record is a record as layer 7 writes it: its length is looked for from below.
func record(key, value string) string {
	for n := len(key) + len(value) + 3; ; n++ {
		if s := strconv.Itoa(n) + " " + key + "=" + value + "\n"; len(s) == n {
			return s
		}
	}
}

// ahead is records with their header, filled up.
func ahead(records string) []byte {
	b := append(fields{name: "pax", typ: 'x', mode: 0o644, size: int64(len(records))}.block(), records...)
	for len(b)%512 != 0 {
		b = append(b, 0)
	}
	return b
}

// splits is layer 6's Split of a path that isn't empty and has no byte 0, in the words of its promise.
func splits(path string) (string, string, bool) {
	if len(path) <= 100 {
		return "", path, true
	}
	for i := 1; i < len(path)-1; i++ {
		if path[i] == '/' && len(path)-i-1 <= 100 {
			return path[:i], path[i+1:], i <= 155
		}
	}
	return "", "", false
}

// model is what P18.2 says of an entry that Check lets pass.
func model(e api.Entry) ([]byte, api.Errno) {
	f := fields{typ: " 0125"[e.Kind], mode: int64(e.Mode)}
	list, bad := "", api.OK
	put := func(key, value string) {
		list += record(key, value)
		if len(key)+len(value) > most {
			bad = api.ErrLong
		}
	}
	text := func(key, value string, room int, to *string) {
		if len(value) > room {
			put(key, value)
		} else {
			*to = value
		}
	}
	number := func(key string, value, end int64, to *int64) {
		if value < 0 || value >= end {
			put(key, strconv.FormatInt(value, 10))
		} else {
			*to = value
		}
	}
	number("gid", e.Gid, 1<<21, &f.gid)
	text("gname", e.Group, 31, &f.group)
	text("linkpath", e.Link, 100, &f.link)
	number("mtime", e.Mtime, 1<<33, &f.mtime)
	prefix, name, ok := splits(e.Path)
	f.prefix, f.name = prefix, name
	if !ok {
		f.prefix, f.name = "", "long"
		put("path", e.Path)
	}
	number("size", e.Size, 1<<33, &f.size)
	number("uid", e.Uid, 1<<21, &f.uid)
	text("uname", e.User, 31, &f.user)
	if bad != api.OK {
		return nil, bad
	}
	if list == "" {
		return f.block(), api.OK
	}
	return append(ahead(list), f.block()...), api.OK
}

// written is Entry of an entry that can be, held against the model.
func written(t testing.TB, e api.Entry) []byte {
	t.Helper()
	want, bad := model(e)
	if bad != api.OK {
		t.Fatalf("the model of %.200v: %v", e, bad)
	}
	b, bad := emit.Entry(e)
	if bad != api.OK || !bytes.Equal(b, want) {
		t.Fatalf("Entry of %.200v: %v, %q, not %q", e, bad, b, want)
	}
	return b
}

// readBack is the one entry that layer 12 reads of bytes, at their end.
func readBack(t testing.TB, b []byte) api.Entry {
	t.Helper()
	events := push.New().Feed(b)
	if len(events) == 0 || events[0].Kind != push.Begin || events[0].At != len(b) {
		t.Fatalf("no entry at the end of %d bytes: %.300v", len(b), events)
	}
	if want := map[bool]int{true: 1, false: 2}[events[0].Entry.Size > 0]; len(events) != want {
		t.Fatalf("%d events, not %d", len(events), want)
	}
	return events[0].Entry
}

// thereAndBack: an entry is written as the model says, and read as it was; how many bytes it is.
func thereAndBack(t testing.TB, e api.Entry) int {
	t.Helper()
	b := written(t, e)
	if got := readBack(t, b); got != e {
		t.Fatalf("there and back: %.300v, not %.300v", got, e)
	}
	return len(b)
}

func refuse(t *testing.T, e api.Entry, want api.Errno) {
	t.Helper()
	if b, bad := emit.Entry(e); bad != want || len(b) != 0 {
		t.Errorf("Entry of %.200v: %d bytes, %v, not %v", e, len(b), bad, want)
	}
}

// The chapter's examples.
func TestExample(t *testing.T) {
	if n := thereAndBack(t, api.Entry{Path: "a", Kind: api.File}); n != 512 {
		t.Errorf("a file: %d bytes", n)
	}
	if n := thereAndBack(t, api.Entry{Path: letters(101), Kind: api.Dir}); n != 3*512 {
		t.Errorf("a directory with a long path: %d bytes", n)
	}
}

// The document's limit.
func TestBlock(t *testing.T) {
	if emit.Block != 512 {
		t.Errorf("Block: %d", emit.Block)
	}
}

// P18.1: kinds.
func TestCheckKinds(t *testing.T) {
	for _, kind := range kinds {
		if bad := emit.Check(plain(kind)); bad != api.OK {
			t.Errorf("the kind %d: %v", kind, bad)
		}
	}
	for _, kind := range []int{0, 5, -1, 256 + api.File, '0', math.MaxInt, math.MinInt} {
		for _, link := range []string{"", "l"} {
			e := api.Entry{Path: "p", Link: link, Kind: kind}
			if bad := emit.Check(e); bad != api.ErrEntry {
				t.Errorf("the kind %d: %v", kind, bad)
			}
			refuse(t, e, api.ErrEntry)
		}
	}
}

// P18.1: what is right, at its edges, of each kind.
func TestCheckRight(t *testing.T) {
	for _, kind := range kinds {
		for name, change := range map[string]func(*api.Entry){
			"the least mode":     func(e *api.Entry) { e.Mode = 0 },
			"the greatest mode":  func(e *api.Entry) { e.Mode = 0o7777 },
			"the greatest uid":   func(e *api.Entry) { e.Uid = math.MaxInt64 },
			"the greatest gid":   func(e *api.Entry) { e.Gid = math.MaxInt64 },
			"the least mtime":    func(e *api.Entry) { e.Mtime = math.MinInt64 },
			"the greatest mtime": func(e *api.Entry) { e.Mtime = math.MaxInt64 },
			"a long path":        func(e *api.Entry) { e.Path = letters(9000) },
			"odd bytes":          func(e *api.Entry) { e.Path, e.User, e.Group = "/../\xff\n=", "\xfe \n", "=\x80" },
		} {
			if bad := emit.Check(with(plain(kind), change)); bad != api.OK {
				t.Errorf("the kind %d, %s: %v", kind, name, bad)
			}
		}
	}
	for _, size := range []int64{0, 1, 1 << 40, math.MaxInt64} {
		if bad := emit.Check(api.Entry{Path: "p", Kind: api.File, Size: size}); bad != api.OK {
			t.Errorf("the size %d: %v", size, bad)
		}
	}
}

// P18.1: what is wrong, of each kind; Entry answers the same.
func TestCheckWrong(t *testing.T) {
	for _, kind := range kinds {
		for name, change := range map[string]func(*api.Entry){
			"a mode below 0":      func(e *api.Entry) { e.Mode = -1 },
			"the least mode":      func(e *api.Entry) { e.Mode = math.MinInt },
			"a mode above":        func(e *api.Entry) { e.Mode = 0o10000 },
			"a mode with a kind":  func(e *api.Entry) { e.Mode = 0o100644 },
			"the greatest mode":   func(e *api.Entry) { e.Mode = math.MaxInt },
			"a uid below 0":       func(e *api.Entry) { e.Uid = -1 },
			"the least uid":       func(e *api.Entry) { e.Uid = math.MinInt64 },
			"a gid below 0":       func(e *api.Entry) { e.Gid = -1 },
			"the least gid":       func(e *api.Entry) { e.Gid = math.MinInt64 },
			"a size below 0":      func(e *api.Entry) { e.Size = -1 },
			"the least size":      func(e *api.Entry) { e.Size = math.MinInt64 },
			"no path":             func(e *api.Entry) { e.Path = "" },
			"a path of a byte 0":  func(e *api.Entry) { e.Path = "\x00" },
			"a byte 0 in a path":  func(e *api.Entry) { e.Path = letters(200) + "\x00" },
			"a byte 0 in a link":  func(e *api.Entry) { e.Link = "a\x00b" },
			"a byte 0 in a user":  func(e *api.Entry) { e.User = "u\x00" },
			"a byte 0 in a group": func(e *api.Entry) { e.Group = "\x00g" },
			"the other link": func(e *api.Entry) {
				if e.Link == "" {
					e.Link = "l"
				} else {
					e.Link = ""
				}
			},
		} {
			e := with(plain(kind), change)
			if bad := emit.Check(e); bad != api.ErrEntry {
				t.Errorf("the kind %d, %s: %v", kind, name, bad)
			}
			refuse(t, e, api.ErrEntry)
		}
	}
	for _, kind := range []int{api.Hard, api.Soft, api.Dir} {
		for _, size := range []int64{1, 512, math.MaxInt64} {
			e := with(plain(kind), func(e *api.Entry) { e.Size = size })
			if bad := emit.Check(e); bad != api.ErrEntry {
				t.Errorf("the kind %d with the size %d: %v", kind, size, bad)
			}
			refuse(t, e, api.ErrEntry)
		}
	}
	refuse(t, api.Entry{Path: letters(9000), Kind: api.File, Mode: -1}, api.ErrEntry) // Check's error, and one of records
}

// P18.2: what fits stands in one header, with all its fields.
func TestFits(t *testing.T) {
	for _, kind := range kinds {
		e := api.Entry{Path: "d/a", Kind: kind, Mode: 0o4755, Uid: 1000, Gid: 100, Mtime: 1234567890, User: "user", Group: "group"}
		f := fields{name: "d/a", typ: " 0125"[kind], mode: 0o4755, uid: 1000, gid: 100, mtime: 1234567890, user: "user", group: "group"}
		switch kind {
		case api.File:
			e.Size, f.size = 77, 77
		case api.Hard, api.Soft:
			e.Link, f.link = "../to", "../to"
		}
		b, bad := emit.Entry(e)
		if bad != api.OK || !bytes.Equal(b, f.block()) {
			t.Errorf("the kind %d: %v, %q, not %q", kind, bad, b, f.block())
		}
		thereAndBack(t, e)
	}
}

// P18.2: each thing at the edge of what fits: the last that does is one block, the first that doesn't is a record.
func TestEdges(t *testing.T) {
	file := api.Entry{Path: "a", Kind: api.File, Mode: 0o600, Uid: 1, Gid: 2, Size: 3, Mtime: 4, User: "u", Group: "g"}
	soft := api.Entry{Path: "a", Link: "l", Kind: api.Soft, Mode: 0o777, Mtime: 4}
	cases := []struct {
		name  string
		entry api.Entry
		key   string
		value string // empty: it fits
	}{
		{"a path of 100", with(file, func(e *api.Entry) { e.Path = letters(100) }), "path", ""},
		{"a path of 101", with(file, func(e *api.Entry) { e.Path = letters(101) }), "path", letters(101)},
		{"a path with a prefix", with(file, func(e *api.Entry) { e.Path = letters(155) + "/" + letters(100) }), "path", ""},
		{"a prefix of 156", with(file, func(e *api.Entry) { e.Path = letters(156) + "/" + letters(100) }), "path", letters(156) + "/" + letters(100)},
		{"a name of 101", with(file, func(e *api.Entry) { e.Path = letters(50) + "/" + letters(101) }), "path", letters(50) + "/" + letters(101)},
		{"a slash at the end", with(file, func(e *api.Entry) { e.Path = letters(100) + "/" }), "path", letters(100) + "/"},
		{"a link of 100", with(soft, func(e *api.Entry) { e.Link = letters(100) }), "linkpath", ""},
		{"a link of 101", with(soft, func(e *api.Entry) { e.Link = letters(101) }), "linkpath", letters(101)},
		{"a link with slashes", with(soft, func(e *api.Entry) { e.Link = letters(100) + "/a" }), "linkpath", letters(100) + "/a"},
		{"a user of 31", with(file, func(e *api.Entry) { e.User = letters(31) }), "uname", ""},
		{"a user of 32", with(file, func(e *api.Entry) { e.User = letters(32) }), "uname", letters(32)},
		{"a group of 31", with(file, func(e *api.Entry) { e.Group = letters(31) }), "gname", ""},
		{"a group of 32", with(file, func(e *api.Entry) { e.Group = letters(32) }), "gname", letters(32)},
		{"the last uid", with(file, func(e *api.Entry) { e.Uid = 1<<21 - 1 }), "uid", ""},
		{"the first uid", with(file, func(e *api.Entry) { e.Uid = 1 << 21 }), "uid", "2097152"},
		{"the last gid", with(file, func(e *api.Entry) { e.Gid = 1<<21 - 1 }), "gid", ""},
		{"the first gid", with(file, func(e *api.Entry) { e.Gid = 1 << 21 }), "gid", "2097152"},
		{"the greatest gid", with(file, func(e *api.Entry) { e.Gid = math.MaxInt64 }), "gid", "9223372036854775807"},
		{"the last size", with(file, func(e *api.Entry) { e.Size = 1<<33 - 1 }), "size", ""},
		{"the first size", with(file, func(e *api.Entry) { e.Size = 1 << 33 }), "size", "8589934592"},
		{"the last mtime", with(file, func(e *api.Entry) { e.Mtime = 1<<33 - 1 }), "mtime", ""},
		{"the first mtime", with(file, func(e *api.Entry) { e.Mtime = 1 << 33 }), "mtime", "8589934592"},
		{"an mtime below 0", with(file, func(e *api.Entry) { e.Mtime = -1 }), "mtime", "-1"},
		{"the least mtime", with(soft, func(e *api.Entry) { e.Mtime = math.MinInt64 }), "mtime", "-9223372036854775808"},
	}
	for _, c := range cases {
		n := thereAndBack(t, c.entry)
		if c.value == "" && n != 512 {
			t.Errorf("%s: %d bytes", c.name, n)
		}
		if c.value == "" {
			continue
		}
		b, _ := emit.Entry(c.entry)
		if front := ahead(record(c.key, c.value)); n != len(front)+512 || !bytes.HasPrefix(b, front) {
			t.Errorf("%s: %q, not %q ahead", c.name, b, front)
		}
	}
}

// P18.2: what is a record stands no more in the header, and all else does.
func TestHeaderOfRecords(t *testing.T) {
	e := api.Entry{Path: letters(50) + "/" + letters(101), Link: letters(101), Kind: api.Hard, Mode: 0o7777, Uid: 1 << 21, Gid: 1 << 22, Mtime: -5, User: letters(32), Group: letters(33)}
	b := written(t, e)
	want := fields{name: "long", typ: '1', mode: 0o7777}.block()
	if !bytes.Equal(b[len(b)-512:], want) {
		t.Errorf("the header: %q, not %q", b[len(b)-512:], want)
	}
	one := with(e, func(e *api.Entry) { e.Path, e.Gid, e.Group = "a/b", 7, "g" })
	b = written(t, one)
	want = fields{name: "a/b", typ: '1', mode: 0o7777, gid: 7, group: "g"}.block()
	if !bytes.Equal(b[len(b)-512:], want) {
		t.Errorf("the header: %q, not %q", b[len(b)-512:], want)
	}
}

// P18.2: all eight records, in the order of their keys.
func TestOrder(t *testing.T) {
	list := record("gid", "2097153") + record("gname", letters(40)) + record("mtime", "-7") + record("path", letters(120)) +
		record("size", "8589934593") + record("uid", "2097154") + record("uname", letters(41))
	e := api.Entry{Path: letters(120), Kind: api.File, Uid: 2097154, Gid: 2097153, Mtime: -7, Size: 8589934593, User: letters(41), Group: letters(40)}
	for range 20 { // a map's own order isn't seen
		if b := written(t, e); !bytes.HasPrefix(b, ahead(list)) {
			t.Fatalf("the records: %q", b)
		}
	}
	soft := api.Entry{Path: letters(120), Link: letters(130), Kind: api.Soft, Mtime: -7, User: letters(41), Group: letters(40)}
	list = record("gname", letters(40)) + record("linkpath", letters(130)) + record("mtime", "-7") + record("path", letters(120)) + record("uname", letters(41))
	for range 20 {
		if b := written(t, soft); !bytes.HasPrefix(b, ahead(list)) {
			t.Fatalf("the records of a name: %q", b)
		}
	}
}

// P18.2: records fill whole blocks, up to the byte.
func TestFilledUp(t *testing.T) {
	for n := 480; n <= 520; n++ {
		size := len(record("path", letters(n)))
		want := 1024 + (size+511)/512*512
		if got := thereAndBack(t, api.Entry{Path: letters(n), Kind: api.Dir}); got != want {
			t.Errorf("records of %d bytes: %d, not %d", size, got, want)
		}
	}
}

// P18.2: the records' error: a key and its value are too long together.
func TestTooLong(t *testing.T) {
	soft := api.Entry{Path: "a", Link: "l", Kind: api.Soft}
	for key, change := range map[string]func(*api.Entry, string){
		"path":     func(e *api.Entry, s string) { e.Path = s },
		"linkpath": func(e *api.Entry, s string) { e.Link = s },
		"uname":    func(e *api.Entry, s string) { e.User = s },
		"gname":    func(e *api.Entry, s string) { e.Group = s },
	} {
		thereAndBack(t, with(soft, func(e *api.Entry) { change(e, letters(most-len(key))) }))
		for _, n := range []int{most - len(key) + 1, most, 5000, 1 << 20} {
			e := with(soft, func(e *api.Entry) { change(e, letters(n)) })
			if bad := emit.Check(e); bad != api.OK {
				t.Errorf("Check of a %s of %d bytes: %v", key, n, bad)
			}
			refuse(t, e, api.ErrLong)
			refuse(t, with(e, func(e *api.Entry) { e.Uid = 1 << 30 }), api.ErrLong)
		}
	}
}

// P18.2: how many bytes all records are isn't asked, though layer 12 reads at most MaxMeta of them.
func TestMoreThanIsRead(t *testing.T) {
	e := api.Entry{Path: letters(4000), Link: letters(4000), Kind: api.Soft, User: letters(154)}
	for len(record("linkpath", e.Link)+record("path", e.Path)+record("uname", e.User)) < push.MaxMeta {
		e.User += "a"
	}
	thereAndBack(t, e)
	e.User += "a"
	b := written(t, e)
	events := push.New().Feed(b)
	if len(events) != 1 || fault.Code(events[0].Err) != api.ErrLong {
		t.Errorf("what is read: %.300v", events)
	}
}

// P18.3: any entry that is written is read as it was.
func TestThereAndBack(t *testing.T) {
	r := rand.New(rand.NewSource(18))
	for range 20000 {
		e := anyEntry(r)
		if emit.Check(e) != api.OK {
			t.Fatalf("Check of %+v", e)
		}
		thereAndBack(t, e)
	}
}

// anyEntry is an entry that can be written, and read.
func anyEntry(r *rand.Rand) api.Entry {
	e := api.Entry{Kind: kinds[r.Intn(4)], Mode: r.Intn(0o10000), Uid: anyNumber(r), Gid: anyNumber(r), Mtime: anyNumber(r), User: anyText(r, 40), Group: anyText(r, 40)}
	for e.Path == "" {
		e.Path = anyText(r, 300)
	}
	switch e.Kind {
	case api.File:
		e.Size = anyNumber(r)
	case api.Hard, api.Soft:
		for e.Link == "" {
			e.Link = anyText(r, 120)
		}
	}
	if r.Intn(2) == 0 {
		e.Mtime = -e.Mtime
	}
	return e
}

// anyNumber is one that isn't below 0, often at an edge.
func anyNumber(r *rand.Rand) int64 {
	switch r.Intn(4) {
	case 0:
		return r.Int63() >> r.Intn(63)
	case 1:
		return 1<<21 - 2 + r.Int63n(4)
	case 2:
		return 1<<33 - 2 + r.Int63n(4)
	}
	return r.Int63n(1000)
}

// anyText has any bytes but 0, slashes and lines among them.
func anyText(r *rand.Rand, n int) string {
	b := make([]byte, r.Intn(n+1))
	for i := range b {
		b[i] = "ab/=\n \xff0"[r.Intn(8)]
		if r.Intn(10) > 0 {
			b[i] = byte(1 + r.Intn(255))
		}
	}
	return string(b)
}

// P18.2: of any entry at all the answer is what the promises say.
func TestModel(t *testing.T) {
	r := rand.New(rand.NewSource(182))
	lengths := []int{0, 1, 30, 31, 32, 99, 100, 101, 155, 255, 256, 257, 4087, 4088, 4089, 4091, 4092, 4093}
	text := func() string {
		b := []byte(letters(lengths[r.Intn(len(lengths))]))
		for range r.Intn(4) {
			if len(b) > 0 {
				b[r.Intn(len(b))] = "///\x00"[r.Intn(4)]
			}
		}
		return string(b)
	}
	numbers := []int64{0, 0, 1, 1<<21 - 1, 1 << 21, 1<<33 - 1, 1 << 33, math.MaxInt64, -1, math.MinInt64}
	number := func() int64 { return numbers[r.Intn(len(numbers))] }
	passed := 0
	for range 20000 {
		e := api.Entry{Path: text(), Link: text(), Kind: r.Intn(6), Mode: r.Intn(0o10001), Uid: number(), Gid: number(), Size: number(), Mtime: number(), User: text(), Group: text()}
		if r.Intn(2) == 0 && e.Kind != api.Hard && e.Kind != api.Soft {
			e.Link = ""
		}
		if r.Intn(2) == 0 && e.Kind != api.File {
			e.Size = 0
		}
		want, bad := []byte(nil), api.ErrEntry
		if canBe(e) {
			want, bad = model(e)
			passed++
		}
		got, e2 := emit.Entry(e)
		if e2 != bad || !bytes.Equal(got, want) {
			t.Fatalf("Entry of %.300v: %v, not %v", e, e2, bad)
		}
	}
	if passed < 500 {
		t.Errorf("only %d entries could be written", passed)
	}
}

// canBe is Check in the words of P18.1, one after the other.
func canBe(e api.Entry) bool {
	if !slices.Contains(kinds, e.Kind) || e.Mode < 0 || e.Mode > 4095 || e.Uid < 0 || e.Gid < 0 || e.Size < 0 {
		return false
	}
	if e.Kind != api.File && e.Size != 0 {
		return false
	}
	if (e.Kind == api.Hard || e.Kind == api.Soft) && e.Link == "" {
		return false
	}
	if (e.Kind == api.File || e.Kind == api.Dir) && e.Link != "" {
		return false
	}
	return e.Path != "" && !strings.Contains(e.Path+e.Link+e.User+e.Group, "\x00")
}

// P18.4.
func TestFill(t *testing.T) {
	for size, want := range map[int64]int{0: 0, 1: 511, 2: 510, 511: 1, 512: 0, 513: 511, 1024: 0, 1 << 20: 0, 1<<20 + 1: 511, 1<<62 - 1: 1, 1 << 62: 0} {
		if b := emit.Fill(size); len(b) != want || bytes.Count(b, []byte{0}) != want {
			t.Errorf("Fill(%d): %d bytes, not %d", size, len(b), want)
		}
	}
}

// P18.4: an archive ends with two blank blocks.
func TestEnd(t *testing.T) {
	if b := emit.End(); !bytes.Equal(b, make([]byte, 1024)) {
		t.Errorf("End: %q", b)
	}
	b := append(written(t, plain(api.Dir)), emit.End()...)
	p := push.New()
	events := p.Feed(b)
	if len(events) != 3 || events[2].Kind != push.Done || p.End() != nil {
		t.Errorf("an archive at its end: %v", events)
	}
}

// P1: no size makes Fill panic.
func TestAnySize(t *testing.T) {
	for _, size := range []int64{-1, -511, -512, -513, math.MinInt64, math.MinInt64 + 1, 1<<62 + 1, math.MaxInt64} {
		emit.Fill(size)
	}
}

// P2: what is answered is new memory each time, its spare room too.
func TestNewMemory(t *testing.T) {
	spoil := func(b []byte) {
		b = b[:cap(b)]
		for i := range b {
			b[i] = 'z'
		}
	}
	long := api.Entry{Path: letters(300), Kind: api.File, Uid: 1 << 40}
	for range 3 {
		spoil(written(t, long))
		spoil(written(t, plain(api.File)))
		if b := emit.Fill(1); !bytes.Equal(b, make([]byte, 511)) {
			t.Fatalf("Fill: %q", b)
		} else {
			spoil(b)
		}
		if b := emit.End(); !bytes.Equal(b, make([]byte, 1024)) {
			t.Fatalf("End: %q", b)
		} else {
			spoil(b)
		}
	}
	first, second := written(t, long), written(t, long)
	spoil(first)
	if want, _ := model(long); !bytes.Equal(second, want) {
		t.Error("two answers share memory")
	}
}

// What is written is read by the library as it was meant.
func TestLibrary(t *testing.T) {
	types := map[int]byte{api.File: tar.TypeReg, api.Hard: tar.TypeLink, api.Soft: tar.TypeSymlink, api.Dir: tar.TypeDir}
	for _, kind := range kinds {
		for _, n := range []int{1, 99, 101, 300, 3000} {
			e := api.Entry{Path: letters(n), Kind: kind, Mode: 0o644, Uid: int64(n) << 15, Gid: int64(n) << 16, Mtime: int64(n) << 26, User: letters(n % 60), Group: letters(n % 50)}
			if kind == api.Hard || kind == api.Soft {
				e.Link = letters(n)
			}
			b := append(written(t, e), emit.End()...)
			h, err := tar.NewReader(bytes.NewReader(b)).Next()
			if err != nil {
				t.Fatalf("the kind %d, %d: %v", kind, n, err)
			}
			if h.Name != e.Path || h.Linkname != e.Link || h.Typeflag != types[kind] || h.Mode != 0o644 || int64(h.Uid) != e.Uid ||
				int64(h.Gid) != e.Gid || h.ModTime.Unix() != e.Mtime || h.Uname != e.User || h.Gname != e.Group {
				t.Errorf("the kind %d, %d: %+v", kind, n, h)
			}
		}
	}
}

// P1 and P18.3: of anything at all.
func FuzzEntry(f *testing.F) {
	f.Add("a", "", 1, 420, int64(1), int64(2), int64(3), int64(4), "u", "g")
	f.Add(letters(300), letters(200), 3, 0, int64(1<<40), int64(1<<41), int64(0), int64(-9), letters(50), letters(60))
	f.Fuzz(func(t *testing.T, path, link string, kind, mode int, uid, gid, size, mtime int64, user, group string) {
		e := api.Entry{Path: path, Link: link, Kind: kind, Mode: mode, Uid: uid, Gid: gid, Size: size, Mtime: mtime, User: user, Group: group}
		b, bad := emit.Entry(e)
		if check := emit.Check(e); (check == api.OK) != canBe(e) || check != api.OK && bad != check {
			t.Fatalf("Check of %+v: %v, Entry: %v", e, check, bad)
		}
		if bad == api.OK && len(b) < 8000 {
			if got := readBack(t, b); got != e {
				t.Fatalf("there and back: %+v, not %+v", got, e)
			}
		}
	})
}
