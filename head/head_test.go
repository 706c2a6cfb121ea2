package head_test

import (
	"archive/tar"
	"bytes"
	"math"
	"math/rand"
	"slices"
	"strings"
	"testing"
	"time"

	"pannier/api"
	"pannier/head"
	"pannier/octal"
	"pannier/sum"
)

const (
	ustarMagic = "ustar\x0000"
	gnuMagic   = "ustar  \x00"
)

// lay is a block with these texts at these places, sealed.
func lay(t *testing.T, texts map[int]string) []byte {
	t.Helper()
	b := make([]byte, 512)
	for at, text := range texts {
		copy(b[at:], text)
	}
	sealed, e := sum.Seal(b)
	if e != api.OK {
		t.Fatal(e)
	}
	return sealed
}

func checkDecode(t *testing.T, b []byte, want head.Header) {
	t.Helper()
	if h, e := head.Decode(b); h != want || e != api.OK {
		t.Errorf("Decode: %+v %v, not %+v", h, e, want)
	}
}

// refuseDecode: the header beside an error is nothing.
func refuseDecode(t *testing.T, b []byte, want api.Errno) {
	t.Helper()
	if h, e := head.Decode(b); h != (head.Header{}) || e != want {
		t.Errorf("Decode: %+v %v, not %v", h, e, want)
	}
}

func refuseEncode(t *testing.T, h head.Header, want api.Errno) {
	t.Helper()
	if b, e := head.Encode(h); b != nil || e != want {
		t.Errorf("Encode of %+v: %q %v, not %v", h, b, e, want)
	}
}

// The forms have the numbers of their order.
func TestForms(t *testing.T) {
	if head.Old != 0 || head.Ustar != 1 || head.Gnu != 2 {
		t.Errorf("forms: %d %d %d", head.Old, head.Ustar, head.Gnu)
	}
}

// P6.1: Blank asks for 512 bytes, all 0.
func TestBlank(t *testing.T) {
	for _, n := range []int{0, 1, 511, 512, 513, 1024} {
		if head.Blank(make([]byte, n)) != (n == 512) {
			t.Errorf("%d bytes 0", n)
		}
	}
	if head.Blank(nil) {
		t.Error("no bytes")
	}
	for i := range 512 {
		for _, x := range []byte{1, 32, 48, 128, 255} {
			b := make([]byte, 512)
			b[i] = x
			if head.Blank(b) {
				t.Errorf("a byte %d at %d", x, i)
			}
		}
	}
}

// P6.1, P6.2: each field is read where it stands.
func TestDecodePlaces(t *testing.T) {
	b := lay(t, map[int]string{
		0: "the name", 100: "0000001", 108: "0000002", 116: "0000003", 124: "00000000004", 136: "00000000005",
		156: "6", 157: "the link", 257: ustarMagic, 265: "the user", 297: "the group", 329: "device", 345: "the prefix", 500: "behind",
	})
	checkDecode(t, b, head.Header{
		Form: head.Ustar, Name: "the name", Link: "the link", Prefix: "the prefix", User: "the user", Group: "the group",
		Type: '6', Mode: 1, Uid: 2, Gid: 3, Size: 4, Mtime: 5,
	})
}

// P6.1: a text is its whole field, if no byte is 0, and no byte beside it.
func TestDecodeWholeTexts(t *testing.T) {
	a, b, c, d, e := strings.Repeat("a", 100), strings.Repeat("b", 100), strings.Repeat("c", 32), strings.Repeat("d", 32), strings.Repeat("e", 155)
	block := lay(t, map[int]string{
		0: a, 100: "00000010", 108: "00000020", 116: "00000030", 124: "000000000040", 136: "000000000050",
		156: "0", 157: b, 257: ustarMagic, 265: c, 297: d, 329: strings.Repeat("x", 16), 345: e, 500: strings.Repeat("y", 12),
	})
	checkDecode(t, block, head.Header{
		Form: head.Ustar, Name: a, Link: b, User: c, Group: d, Prefix: e,
		Type: '0', Mode: 8, Uid: 16, Gid: 24, Size: 32, Mtime: 40,
	})
}

// P6.1: a text ends ahead of its first byte 0, whatever stands behind.
func TestDecodeCutTexts(t *testing.T) {
	b := lay(t, map[int]string{
		0: "n\x00x\x00y", 157: "\x00link", 257: ustarMagic, 265: "\xff\xfe\x00u", 297: " g \x00\x00g", 345: "p/q\x00/r",
	})
	checkDecode(t, b, head.Header{Form: head.Ustar, Name: "n", User: "\xff\xfe", Group: " g ", Prefix: "p/q"})
}

// P6.1: numbers are read by layer 2, to the base 256, too, and below 0.
func TestDecodeNumbers(t *testing.T) {
	b := lay(t, map[int]string{
		100: "  644 \x00 ", 108: "\x80\x00\x00\x01\x00\x00\x00\x00", 116: "\xff\xff\xff\xff\xff\xff\xff\xfe",
		124: "\x80\x00\x00\x00\x7f\xff\xff\xff\xff\xff\xff\xff", 136: "\xff\xff\xff\xff\x80\x00\x00\x00\x00\x00\x00\x00",
	})
	checkDecode(t, b, head.Header{Mode: 420, Uid: 1 << 32, Gid: -2, Size: math.MaxInt64, Mtime: math.MinInt64})
	b = lay(t, map[int]string{100: "77777777", 108: "77777777", 116: "77777777", 124: "777777777777", 136: "777777777777"})
	checkDecode(t, b, head.Header{Mode: 1<<24 - 1, Uid: 1<<24 - 1, Gid: 1<<24 - 1, Size: 1<<36 - 1, Mtime: 1<<36 - 1})
}

// P6.2: the magic tells the form, and the form which texts are read.
func TestDecodeForm(t *testing.T) {
	texts := map[int]string{0: "n", 157: "l", 265: "u", 297: "g", 345: "p"}
	for magic, want := range map[string]head.Header{
		ustarMagic:          {Form: head.Ustar, Name: "n", Link: "l", User: "u", Group: "g", Prefix: "p"},
		gnuMagic:            {Form: head.Gnu, Name: "n", Link: "l", User: "u", Group: "g"},
		"":                  {Name: "n", Link: "l"},
		"ustar":             {Name: "n", Link: "l"},
		"ustar\x0001":       {Name: "n", Link: "l"},
		"ustar\x00\x00\x00": {Name: "n", Link: "l"},
		"ustar\x000 ":       {Name: "n", Link: "l"},
		"ustar 00":          {Name: "n", Link: "l"},
		"ustar   ":          {Name: "n", Link: "l"},
		"ustar \x00\x00":    {Name: "n", Link: "l"},
		"ustar\x00 \x00":    {Name: "n", Link: "l"},
		"USTAR\x0000":       {Name: "n", Link: "l"},
		"ustaR  \x00":       {Name: "n", Link: "l"},
		"xstar\x0000":       {Name: "n", Link: "l"},
		"00ustar\x00":       {Name: "n", Link: "l"},
	} {
		texts[257] = magic
		checkDecode(t, lay(t, texts), want)
	}
}

// P6.2: a type is any byte.
func TestDecodeType(t *testing.T) {
	for x := range 256 {
		checkDecode(t, lay(t, map[int]string{156: string([]byte{byte(x)})}), head.Header{Type: byte(x)})
	}
}

// P6.2: either sum of layer 5 is taken.
func TestDecodeSums(t *testing.T) {
	b := lay(t, map[int]string{0: "\xe4"})
	field, _ := octal.Format(int64(sum.Signed(b)), 8)
	copy(b[148:], field)
	checkDecode(t, b, head.Header{Name: "\xe4"})
	b[148] = '1'
	refuseDecode(t, b, api.ErrSum)
	refuseDecode(t, make([]byte, 512), api.ErrSum)
}

// P6.2: the errors in their order: the length, the sum, the numbers.
func TestDecodeErrors(t *testing.T) {
	good := lay(t, map[int]string{0: "n"})
	for _, n := range []int{0, 1, 157, 511} {
		refuseDecode(t, good[:n], api.ErrRange)
	}
	refuseDecode(t, nil, api.ErrRange)
	refuseDecode(t, append(slices.Clone(good), 0), api.ErrRange)
	refuseDecode(t, append(slices.Clone(good), good...), api.ErrRange)
	for i := range 512 {
		b := slices.Clone(good)
		b[i] ^= 3
		if i < 148 || i > 155 {
			refuseDecode(t, b, api.ErrSum)
		}
	}
	for _, at := range []int{100, 107, 108, 115, 116, 123, 124, 135, 136, 147} {
		b := lay(t, map[int]string{0: "n", at: "9", 257: ustarMagic})
		refuseDecode(t, b, api.ErrNumber)
		b[0]++
		refuseDecode(t, b, api.ErrSum)
	}
	refuseDecode(t, lay(t, map[int]string{124: "\x80\x00\x00\x00\x80"}), api.ErrNumber)
	refuseDecode(t, lay(t, map[int]string{136: "\xf0"}), api.ErrNumber)
}

// P6.3: a text fits by its length, if no byte of it is 0.
func TestFits(t *testing.T) {
	for _, c := range []struct {
		text string
		most int
		fits bool
	}{
		{"", 0, true}, {"", 1, true}, {"", -1, false}, {"", math.MinInt, false},
		{"a", 0, false}, {"a", 1, true}, {"a", -1, false}, {"a", math.MaxInt, true},
		{"abc", 2, false}, {"abc", 3, true}, {"abc", 4, true},
		{"ä", 1, false}, {"ä", 2, true}, {"\xff", 1, true},
		{"\x00", 1, false}, {"a\x00", 9, false}, {"\x00a", 9, false}, {"a\x00b", math.MaxInt, false},
	} {
		if head.Fits(c.text, c.most) != c.fits {
			t.Errorf("Fits(%q, %d): not %v", c.text, c.most, c.fits)
		}
	}
}

// P6.3: the fields are written where they stand, and nothing else is.
func TestEncode(t *testing.T) {
	h := head.Header{
		Name: "the name", Link: "the link", Prefix: "the prefix", User: "the user", Group: "the group",
		Type: '5', Mode: 0o755, Uid: 0o12, Gid: 0o34, Size: 0o5670, Mtime: 0o12345670,
	}
	want := lay(t, map[int]string{
		0: "the name", 100: "0000755", 108: "0000012", 116: "0000034", 124: "00000005670", 136: "00012345670",
		156: "5", 157: "the link", 257: ustarMagic, 265: "the user", 297: "the group", 345: "the prefix",
	})
	for _, form := range []int{head.Old, head.Ustar, head.Gnu, -1, math.MaxInt, math.MinInt} {
		h.Form = form
		if b, e := head.Encode(h); e != api.OK || !bytes.Equal(b, want) {
			t.Errorf("Encode of the form %d: %q %v", form, b, e)
		}
	}
	nothing := lay(t, map[int]string{100: "0000000", 108: "0000000", 116: "0000000", 124: "00000000000", 136: "00000000000", 257: ustarMagic})
	if b, e := head.Encode(head.Header{}); e != api.OK || !bytes.Equal(b, nothing) {
		t.Errorf("Encode of nothing: %q %v", b, e)
	}
}

// longest is the header of which every field is full.
func longest() head.Header {
	return head.Header{
		Form: head.Ustar, Name: strings.Repeat("n", 100), Link: strings.Repeat("l", 100), Prefix: strings.Repeat("p", 155),
		User: strings.Repeat("u", 31), Group: strings.Repeat("g", 31), Type: 255,
		Mode: 0o7777777, Uid: 0o7777777, Gid: 0o7777777, Size: 0o77777777777, Mtime: 0o77777777777,
	}
}

// P6.3, P6.2: what is written is read, at the edges, too.
func TestThereAndBack(t *testing.T) {
	r := rand.New(rand.NewSource(1))
	text := func(most int) string {
		b := make([]byte, r.Intn(most+1))
		for i := range b {
			b[i] = byte(1 + r.Intn(255))
		}
		return string(b)
	}
	headers := []head.Header{
		{Form: head.Ustar}, {Form: head.Ustar, Name: "a", Mode: 420, Size: 5}, longest(),
	}
	for range 2000 {
		headers = append(headers, head.Header{
			Form: head.Ustar, Name: text(100), Link: text(100), Prefix: text(155), User: text(31), Group: text(31), Type: byte(r.Intn(256)),
			Mode: r.Int63n(1 << 21), Uid: r.Int63n(1 << 21), Gid: r.Int63n(1 << 21), Size: r.Int63n(1 << 33), Mtime: r.Int63n(1 << 33),
		})
	}
	for _, h := range headers {
		b, e := head.Encode(h)
		if e != api.OK || len(b) != 512 || !sum.Right(b) || head.Blank(b) {
			t.Fatalf("Encode of %+v: %q %v", h, b, e)
		}
		checkDecode(t, b, h)
	}
}

// P6.3: texts that don't fit, each by one byte, or with a byte 0.
func TestEncodeLong(t *testing.T) {
	for _, change := range []func(h *head.Header, more string){
		func(h *head.Header, more string) { h.Name = more + h.Name[1:] },
		func(h *head.Header, more string) { h.Link = more + h.Link[1:] },
		func(h *head.Header, more string) { h.Prefix = more + h.Prefix[1:] },
		func(h *head.Header, more string) { h.User = more + h.User[1:] },
		func(h *head.Header, more string) { h.Group = more + h.Group[1:] },
	} {
		for _, more := range []string{"ab", "\x00"} {
			h := longest()
			change(&h, more)
			refuseEncode(t, h, api.ErrLong)
			h.Mode, h.Mtime = -1, -1
			refuseEncode(t, h, api.ErrLong)
		}
		h := longest()
		change(&h, "a")
		if _, e := head.Encode(h); e != api.OK {
			t.Errorf("Encode of what fits: %v", e)
		}
	}
	refuseEncode(t, head.Header{Name: strings.Repeat("n", 1<<20)}, api.ErrLong)
}

// P6.3: numbers that don't fit into their fields.
func TestEncodeNumbers(t *testing.T) {
	for i, most := range []int64{0o7777777, 0o7777777, 0o7777777, 0o77777777777, 0o77777777777} {
		for _, n := range []int64{0, 1, most, most + 1, -1, math.MaxInt64, math.MinInt64} {
			var h head.Header
			*[]*int64{&h.Mode, &h.Uid, &h.Gid, &h.Size, &h.Mtime}[i] = n
			if n < 0 || n > most {
				refuseEncode(t, h, api.ErrNumber)
			} else if b, e := head.Encode(h); e != api.OK || len(b) != 512 {
				t.Errorf("the number %d at %d: %v", n, i, e)
			}
		}
	}
}

// split tells what the document asks, byte for byte.
func split(path string) (string, string, bool) {
	if path == "" || strings.Contains(path, "\x00") {
		return "", "", false
	}
	if len(path) <= 100 {
		return "", path, true
	}
	for i := range len(path) {
		ahead, behind := path[:i], path[i+1:]
		if path[i] == '/' && i != 0 && i != len(path)-1 && len(behind) <= 100 {
			if len(ahead) <= 155 {
				return ahead, behind, true
			}
			return "", "", false
		}
	}
	return "", "", false
}

func checkSplit(t *testing.T, path string) {
	t.Helper()
	prefix, name, ok := head.Split(path)
	wantPrefix, wantName, wantOK := split(path)
	if prefix != wantPrefix || name != wantName || ok != wantOK {
		t.Errorf("Split of %q (%d bytes): %d, %d bytes, %v, not %d, %d, %v", path, len(path), len(prefix), len(name), ok, len(wantPrefix), len(wantName), wantOK)
	}
}

// P6.4: a slash at any place, or at two, in paths of all lengths around the edges.
func TestSplitSlashes(t *testing.T) {
	for _, n := range []int{1, 2, 99, 100, 101, 102, 103, 154, 155, 156, 157, 158, 254, 255, 256, 257, 258, 300, 356, 357} {
		plain := bytes.Repeat([]byte("a"), n)
		checkSplit(t, string(plain))
		for i := range n {
			one := slices.Clone(plain)
			one[i] = '/'
			checkSplit(t, string(one))
			for j := i + 1; j < n; j++ {
				two := slices.Clone(one)
				two[j] = '/'
				checkSplit(t, string(two))
			}
		}
	}
}

// P6.4: the edges that the document names, written out.
func TestSplitEdges(t *testing.T) {
	a := func(n int) string { return strings.Repeat("a", n) }
	for _, c := range []struct {
		path, prefix, name string
		ok                 bool
	}{
		{"", "", "", false},
		{"\x00", "", "", false},
		{"a\x00b", "", "", false},
		{a(60) + "/\x00" + a(60), "", "", false},
		{"a", "", "a", true},
		{"a/b", "", "a/b", true},
		{"/", "", "/", true},
		{a(99) + "/", "", a(99) + "/", true},
		{a(100), "", a(100), true},
		{a(101), "", "", false},
		{"/" + a(100), "", "", false},
		{a(100) + "/", "", "", false},
		{"//" + a(99), "/", a(99), true},
		{a(99) + "//", a(99), "/", true},
		{"a/" + a(99), "a", a(99), true},
		{"a/" + a(100), "a", a(100), true},
		{"a/" + a(101), "", "", false},
		{"a/b/" + a(97), "a", "b/" + a(97), true},
		{"a/b/" + a(99), "a/b", a(99), true},
		{a(155) + "/" + a(100), a(155), a(100), true},
		{a(156) + "/" + a(100), "", "", false},
		{a(156) + "/b", "", "", false},
		{a(155) + "/b", a(155), "b", true},
		{a(155) + "/" + a(101), "", "", false},
		{a(155) + "/b/c", a(155), "b/c", true},
		{a(100) + "/" + a(60) + "/b", a(100), a(60) + "/b", true},
		{strings.Repeat("ä", 60) + "/ä", strings.Repeat("ä", 60), "ä", true},
	} {
		if prefix, name, ok := head.Split(c.path); prefix != c.prefix || name != c.name || ok != c.ok {
			t.Errorf("Split of %q: %q %q %v", c.path, prefix, name, ok)
		}
	}
}

// P6.4: paths of a few letters, by chance; those that are split are whole in a header.
func TestSplitRandom(t *testing.T) {
	r := rand.New(rand.NewSource(2))
	for range 20000 {
		b := make([]byte, r.Intn(300))
		slashes := 1 + r.Intn(100)
		for i := range b {
			b[i] = 'a'
			if r.Intn(slashes) == 0 {
				b[i] = '/'
			}
		}
		path := string(b)
		checkSplit(t, path)
		prefix, name, ok := head.Split(path)
		if !ok {
			continue
		}
		h := head.Header{Prefix: prefix, Name: name}
		if _, e := head.Encode(h); e != api.OK || h.Full() != path {
			t.Errorf("the path %q in a header: %q %v", path, h.Full(), e)
		}
	}
}

// P6.4: the whole name.
func TestFull(t *testing.T) {
	for _, c := range []struct {
		prefix, name, full string
	}{
		{"", "", ""}, {"", "n", "n"}, {"p", "n", "p/n"}, {"p", "", "p/"}, {"/", "n", "//n"}, {"p/q", "n/m", "p/q/n/m"}, {"", "/n", "/n"},
	} {
		if full := (head.Header{Prefix: c.prefix, Name: c.name}).Full(); full != c.full {
			t.Errorf("Full of %q, %q: %q", c.prefix, c.name, full)
		}
	}
}

// P6.1 to P6.3: the library's own reader and writer of archives see the same fields.
func TestLibrary(t *testing.T) {
	b, e := head.Encode(head.Header{Name: "n", Prefix: "p", User: "u", Group: "g", Type: '0', Mode: 0o644, Uid: 1, Gid: 2, Mtime: 4})
	got, err := tar.NewReader(bytes.NewReader(append(b, make([]byte, 1024)...))).Next()
	if e != api.OK || err != nil {
		t.Fatal(e, err)
	}
	if got.Name != "p/n" || got.Uname != "u" || got.Gname != "g" || got.Mode != 0o644 || got.Uid != 1 || got.Gid != 2 || got.ModTime.Unix() != 4 || got.Format&tar.FormatUSTAR == 0 {
		t.Errorf("read by the library: %+v", got)
	}
	for format, form := range map[tar.Format]int{tar.FormatUSTAR: head.Ustar, tar.FormatGNU: head.Gnu} {
		var out bytes.Buffer
		w := tar.NewWriter(&out)
		err := w.WriteHeader(&tar.Header{
			Typeflag: tar.TypeSymlink, Name: "n", Linkname: "l", Mode: 0o777, Uid: 1, Gid: 2, ModTime: time.Unix(4, 0), Uname: "u", Gname: "g", Format: format,
		})
		if err != nil {
			t.Fatal(err)
		}
		checkDecode(t, out.Bytes()[:512], head.Header{Form: form, Name: "n", Link: "l", User: "u", Group: "g", Type: '2', Mode: 0o777, Uid: 1, Gid: 2, Mtime: 4})
	}
}

// P1: blocks of any bytes are read or refused; what is read hasn't more than its fields hold.
func TestAnyBytes(t *testing.T) {
	r := rand.New(rand.NewSource(3))
	for range 3000 {
		b := make([]byte, 512)
		for i := range b {
			b[i] = byte(r.Intn(256))
		}
		head.Blank(b)
		head.Decode(b)
		sealed, _ := sum.Seal(b)
		if h, e := head.Decode(sealed); e != api.OK && (e != api.ErrNumber || h != head.Header{}) {
			t.Errorf("Decode: %+v %v", h, e)
		}
		checkSplit(t, string(b[:r.Intn(512)]))
	}
}

func spoil(b []byte) {
	for i := range b {
		b[i] ^= 255
	}
}

// P2: what is handed in stays, with its spare room, and what is answered is new.
func TestMemory(t *testing.T) {
	whole := append(lay(t, map[int]string{0: "n", 157: "l", 257: ustarMagic, 265: "u", 297: "g", 345: "p"}), make([]byte, 512)...)
	before := slices.Clone(whole)
	head.Blank(whole[:512])
	h, e := head.Decode(whole[:512])
	if e != api.OK || !bytes.Equal(whole, before) {
		t.Errorf("an argument was changed: %v", e)
	}
	spoil(whole)
	if h != (head.Header{Form: head.Ustar, Name: "n", Link: "l", User: "u", Group: "g", Prefix: "p"}) {
		t.Errorf("a header shares memory with its block: %+v", h)
	}
	first, _ := head.Encode(h)
	second, _ := head.Encode(h)
	kept := slices.Clone(second)
	spoil(first[:cap(first)])
	third, _ := head.Encode(h)
	if !bytes.Equal(second, kept) || !bytes.Equal(third, kept) {
		t.Error("an answer shares memory with another, or with what is kept")
	}
}
