package pax_test

import (
	"archive/tar"
	"bytes"
	"io"
	"math"
	"math/rand"
	"slices"
	"strconv"
	"strings"
	"testing"

	"pannier/api"
	"pannier/pax"
)

func checkEncode(t *testing.T, want string, list ...pax.Record) {
	t.Helper()
	if b, e := pax.Encode(list...); string(b) != want || e != api.OK {
		t.Errorf("Encode of %q: %q %v, not %q", list, b, e, want)
	}
}

func refuseEncode(t *testing.T, want api.Errno, list ...pax.Record) {
	t.Helper()
	if b, e := pax.Encode(list...); b != nil || e != want {
		t.Errorf("Encode of %d records: %d bytes %v, not %v", len(list), len(b), e, want)
	}
}

func checkDecode(t *testing.T, b string, want ...pax.Record) {
	t.Helper()
	if list, e := pax.Decode([]byte(b)); !slices.Equal(list, want) || e != api.OK {
		t.Errorf("Decode of %q: %q %v, not %q", b, list, e, want)
	}
}

func refuseDecode(t *testing.T, b string, want api.Errno) {
	t.Helper()
	if list, e := pax.Decode([]byte(b)); list != nil || e != want {
		t.Errorf("Decode of %.80q: %d records %v, not %v", b, len(list), e, want)
	}
}

// rough is a record's form with the length that its digits say, whatever Check says of it.
func rough(key, value string) string {
	body := " " + key + "=" + value + "\n"
	for n := len(body); ; n++ {
		if digits := strconv.Itoa(n); len(digits)+len(body) == n {
			return digits + body
		}
	}
}

func letters(n int) string { return strings.Repeat("v", n) }

func many(n int) []pax.Record {
	list := make([]pax.Record, n)
	for i := range list {
		list[i] = pax.Record{Key: "k" + strconv.Itoa(i), Value: strconv.Itoa(i * i)}
	}
	return list
}

func manyRough(n int) string {
	var b strings.Builder
	for _, r := range many(n) {
		b.WriteString(rough(r.Key, r.Value))
	}
	return b.String()
}

func TestLimits(t *testing.T) {
	if pax.MaxRecords != 64 || pax.MaxText != 4096 {
		t.Errorf("limits: %d %d", pax.MaxRecords, pax.MaxText)
	}
}

// P7.1: what Check lets pass.
func TestCheckTakes(t *testing.T) {
	for _, r := range []pax.Record{
		{"a", ""},
		{"path", "a/b"},
		{" ", "x"},
		{"a b", "x"},
		{"a", "==\n\x00\n="},
		{"\xff\x80", "\xfe"},
		{"ключ", "значение"},
		{"\r\t\x01\x0b", ""},
		{letters(4096), ""},
		{"a", letters(4095)},
		{letters(2048), letters(2048)},
	} {
		if e := pax.Check(r); e != api.OK {
			t.Errorf("Check of %.40q: %v", r, e)
		}
	}
}

// P7.1: keys that aren't, wherever the byte stands; ErrRecord comes ahead of ErrLong.
func TestCheckRefuses(t *testing.T) {
	for _, key := range []string{
		"", "=", "\x00", "\n", "=a", "a=", "a=b", "\x00a", "a\x00", "\na", "a\n", "a\nb",
		"\xff\n", "\xff=", "\xff\x00", "éé\n", letters(20) + "=" + letters(20), letters(20) + "\x00", letters(20) + "\n",
	} {
		for _, value := range []string{"", "b", letters(4096), letters(9000)} {
			if e := pax.Check(pax.Record{Key: key, Value: value}); e != api.ErrRecord {
				t.Errorf("Check of %q and %d: %v", key, len(value), e)
			}
		}
	}
}

// P7.1: both together have at most MaxText bytes.
func TestCheckLong(t *testing.T) {
	for _, n := range []int{1, 2, 100, 4095, 4096} {
		if e := pax.Check(pax.Record{Key: letters(n), Value: letters(4096 - n)}); e != api.OK {
			t.Errorf("a key of %d: %v", n, e)
		}
		if e := pax.Check(pax.Record{Key: letters(n), Value: letters(4097 - n)}); e != api.ErrLong {
			t.Errorf("a key of %d, one byte more: %v", n, e)
		}
	}
	if e := pax.Check(pax.Record{Key: letters(5000)}); e != api.ErrLong {
		t.Errorf("a long key: %v", e)
	}
	// bytes count, not letters
	if e := pax.Check(pax.Record{Key: "a", Value: strings.Repeat("é", 2048)}); e != api.ErrLong {
		t.Errorf("letters of two bytes: %v", e)
	}
}

// P7.2: the document's example, several records, and texts of all bytes.
func TestEncode(t *testing.T) {
	checkEncode(t, "")
	checkEncode(t, "9 path=a\n", pax.Record{"path", "a"})
	checkEncode(t, "5 a=\n", pax.Record{"a", ""})
	checkEncode(t, "9 path=a\n7 b=12\n9 path=c\n", pax.Record{"path", "a"}, pax.Record{"b", "12"}, pax.Record{"path", "c"})
	checkEncode(t, "13 a b==\n\x00\xff\n\n", pax.Record{"a b", "=\n\x00\xff\n"})
	checkEncode(t, "7   = \n", pax.Record{"  ", " "})
}

// P7.2: the length counts its own digits, and of two that are true it is the less one.
func TestEncodeLength(t *testing.T) {
	for value, digits := range map[int]string{
		3: "8", 4: "9", 5: "11", 6: "12",
		91: "97", 92: "98", 93: "99", 94: "101", 95: "102",
		991: "998", 992: "999", 993: "1001", 994: "1002",
		4094: "4102", 4095: "4103",
	} {
		v := letters(value)
		checkEncode(t, digits+" k="+v+"\n", pax.Record{"k", v})
	}
}

// P7.2: of every length the digits are the least number that is true.
func TestEncodeEveryLength(t *testing.T) {
	for n := range 4096 {
		v := letters(n)
		b, e := pax.Encode(pax.Record{"k", v})
		if e != api.OK || string(b) != rough("k", v) {
			t.Fatalf("a value of %d: %.20q %v", n, b, e)
		}
		list, e := pax.Decode(b)
		if e != api.OK || len(list) != 1 || list[0] != (pax.Record{"k", v}) {
			t.Fatalf("a value of %d, back: %d records %v", n, len(list), e)
		}
	}
}

// P7.2: MaxRecords of them, one more, and the order of the errors.
func TestEncodeRefuses(t *testing.T) {
	checkEncode(t, manyRough(64), many(64)...)
	refuseEncode(t, api.ErrLong, many(65)...)
	refuseEncode(t, api.ErrLong, append(many(64), pax.Record{})...)
	refuseEncode(t, api.ErrLong, append([]pax.Record{{}}, many(64)...)...)
	refuseEncode(t, api.ErrRecord, pax.Record{})
	refuseEncode(t, api.ErrRecord, append(many(63), pax.Record{"a=", "b"})...)
	long := pax.Record{"a", letters(4096)}
	refuseEncode(t, api.ErrLong, long)
	refuseEncode(t, api.ErrLong, pax.Record{"a", "b"}, long, pax.Record{"", "b"})
	refuseEncode(t, api.ErrRecord, pax.Record{"a", "b"}, pax.Record{"", "b"}, long)
}

// P7.3: records of texts, and bytes of none.
func TestDecode(t *testing.T) {
	checkDecode(t, "")
	checkDecode(t, "9 path=a\n", pax.Record{"path", "a"})
	checkDecode(t, "5 a=\n", pax.Record{"a", ""})
	checkDecode(t, "6 a=1\n8 b==\n\x00\n6 a=2\n", pax.Record{"a", "1"}, pax.Record{"b", "=\n\x00"}, pax.Record{"a", "2"})
	checkDecode(t, "7   = \n", pax.Record{"  ", " "})
	checkDecode(t, "11 a=6 b=1\n", pax.Record{"a", "6 b=1"})
	checkDecode(t, "12 a=\n6 b=1\n", pax.Record{"a", "\n6 b=1"})
	checkDecode(t, rough("\xff", "\x80"), pax.Record{"\xff", "\x80"})
	checkDecode(t, rough("k", letters(4095)), pax.Record{"k", letters(4095)})
}

// P7.3: what isn't of the form, alone, behind a record, and ahead of one.
func TestDecodeRefuses(t *testing.T) {
	for _, s := range []string{
		" ", "\n", "\x00", "x", "=", "6", "6 ", "6\n", "a=1\n", " a=1\n", "6a=1\n",
		"6 a=1", "5 a=1\n", "7 a=1\n", "6 a=1\x00", "6 a=1 ", "6 a=12", "60 a=1\n",
		"06 a=1\n", "006 a=1\n", "0 a=1\n", "1 a=1\n", "2 a=1\n", "3 a=1\n", "-6 a=1\n", "+6 a=1\n", "-7 a=1\n", "+7 a=1\n",
		"6\ta=1\n", "7\ta=1\n", "6. a=1\n", "6_0 a=1\n", "0x6 a=1\n", "٦ a=1\n", "7  6 a=1\n",
		"5 a1\n", "3 \n", "2 \n", "2 ", "1 ", "1", "4 =\n", "5 =1\n", "5 =\n\n",
		"7 a\x00=1\n", "7 a\n=1\n", "7 \x00a=1\n", "7 \na=1\n",
		"9999999 a=1\n", "99999999999999999999999 a=1\n", "9223372036854775807 a=1\n", "9223372036854775808 a=1\n", "-9223372036854775808 a=1\n",
		"18446744073709551622 a=1\n", "4294967302 a=1\n",
	} {
		refuseDecode(t, s, api.ErrRecord)
		refuseDecode(t, "6 a=1\n"+s, api.ErrRecord)
		if s != "6" {
			refuseDecode(t, s+"\x006 a=1\n", api.ErrRecord)
		}
	}
}

// P7.3: of two lengths that are true the greater one isn't taken, not even to say that the record is long.
func TestDecodeLeast(t *testing.T) {
	for _, digits := range []string{"9", "99", "999"} {
		n, _ := strconv.Atoi(digits)
		value := letters(n - len(digits) - 4)
		checkDecode(t, digits+" k="+value+"\n", pax.Record{"k", value})
		refuseDecode(t, strconv.Itoa(n+1)+" k="+value+"\n", api.ErrRecord)
	}
	value := letters(9999 - 4 - 4)
	refuseDecode(t, "9999 k="+value+"\n", api.ErrLong)
	refuseDecode(t, "10000 k="+value+"\n", api.ErrRecord)
}

// P7.3: Check's error, where length and form are right; ErrRecord, where they aren't.
func TestDecodeCheck(t *testing.T) {
	long := rough("k", letters(4096))
	refuseDecode(t, long, api.ErrLong)
	refuseDecode(t, rough("k", letters(20000)), api.ErrLong)
	refuseDecode(t, rough(letters(4097), ""), api.ErrLong)
	refuseDecode(t, rough("", letters(4097)), api.ErrRecord)
	refuseDecode(t, rough("\n", letters(4097)), api.ErrRecord)
	refuseDecode(t, long[:len(long)-1], api.ErrRecord)
	refuseDecode(t, long[:len(long)-1]+" ", api.ErrRecord)
	refuseDecode(t, "0"+long, api.ErrRecord)
	refuseDecode(t, strings.Replace(long, "=", "v", 1), api.ErrRecord)
}

// P7.3: the first error tells, whatever stands behind it.
func TestDecodeFirst(t *testing.T) {
	long := rough("k", letters(4096))
	refuseDecode(t, long+"x", api.ErrLong)
	refuseDecode(t, "x"+long, api.ErrRecord)
	refuseDecode(t, "6 a=1\n"+long+rough("", "a"), api.ErrLong)
	refuseDecode(t, "6 a=1\n"+rough("", "a")+long, api.ErrRecord)
}

// P7.3: MaxRecords of them, and more, as far as they are read.
func TestDecodeMany(t *testing.T) {
	full := manyRough(64)
	checkDecode(t, full, many(64)...)
	refuseDecode(t, manyRough(65), api.ErrLong)
	refuseDecode(t, manyRough(200), api.ErrLong)
	refuseDecode(t, manyRough(65)+"x", api.ErrLong)
	refuseDecode(t, "x"+manyRough(65), api.ErrRecord)
	refuseDecode(t, manyRough(63)+"x"+manyRough(9), api.ErrRecord)
	refuseDecode(t, manyRough(63)+rough("", "a")+manyRough(9), api.ErrRecord)
	refuseDecode(t, full+rough("k", letters(4096)), api.ErrLong)
	// What stands behind 64 records and is none makes them no more than 64.
	refuseDecode(t, full+"x", api.ErrRecord)
	// A record that Check refuses is one more all the same, and the chapter names their number first.
	refuseDecode(t, full+rough("", "a"), api.ErrLong)
}

// P7.3: Decode takes what is some list's Encode, and that alone: one byte more, less or other is told.
func TestDecodeIsEncode(t *testing.T) {
	r := rand.New(rand.NewSource(7))
	for range 20000 {
		var list []pax.Record
		for range r.Intn(4) {
			list = append(list, pax.Record{text(r, 1+r.Intn(3)), text(r, r.Intn(12))})
		}
		b, e := pax.Encode(list...)
		if e != api.OK {
			continue
		}
		checkDecode(t, string(b), list...)
		checkWhole(t, spoil(r, b))
	}
}

// text: letters that records are made of.
func text(r *rand.Rand, n int) string {
	b := make([]byte, n)
	for i := range b {
		b[i] = "abc =\n\x00019"[r.Intn(10)]
	}
	return string(b)
}

// spoil is b with a byte more, less or other.
func spoil(r *rand.Rand, b []byte) []byte {
	at := r.Intn(len(b) + 1)
	out := append(slices.Clone(b[:at]), text(r, r.Intn(2))...)
	if at+1 < len(b) {
		out = append(out, b[at+r.Intn(2):]...)
	}
	return out
}

// checkWhole: if b is taken, it is the Encode of what it is taken as.
func checkWhole(t *testing.T, b []byte) {
	t.Helper()
	list, e := pax.Decode(b)
	if e != api.OK {
		if list != nil {
			t.Errorf("Decode of %q: %q beside %v", b, list, e)
		}
		return
	}
	if again, f := pax.Encode(list...); f != api.OK || !bytes.Equal(again, b) {
		t.Errorf("Decode of %q: %q, of which Encode is %q %v", b, list, again, f)
	}
}

// P1: any bytes are answered.
func FuzzDecode(f *testing.F) {
	f.Add([]byte("6 a=1\n"))
	f.Add([]byte("10 k=vvvv\n"))
	f.Add([]byte("-1 "))
	f.Fuzz(func(t *testing.T, b []byte) { checkWhole(t, b) })
}

// P7.3: the library's own archives have records that are taken.
func TestDecodeLibrary(t *testing.T) {
	var out bytes.Buffer
	w := tar.NewWriter(&out)
	path := strings.Repeat("long/", 60) + "ключ"
	h := &tar.Header{Name: path, Typeflag: tar.TypeReg, Uid: 1 << 40, Format: tar.FormatPAX, PAXRecords: map[string]string{"own.key": "a=b\nc"}}
	if err := w.WriteHeader(h); err != nil {
		t.Fatal(err)
	}
	size, err := strconv.ParseInt(strings.Trim(string(out.Bytes()[124:135]), "\x00 "), 8, 64)
	if err != nil {
		t.Fatal(err)
	}
	records := out.Bytes()[512 : 512+size]
	list, e := pax.Decode(records)
	if e != api.OK {
		t.Fatal(e)
	}
	for key, want := range map[string]string{"path": path, "uid": strconv.Itoa(1 << 40), "own.key": "a=b\nc"} {
		if v, ok := pax.Get(list, key); v != want || !ok {
			t.Errorf("%s: %q %v", key, v, ok)
		}
	}
	if b, e := pax.Encode(list...); e != api.OK || !bytes.Equal(b, records) {
		t.Errorf("once more: %q %v", b, e)
	}
}

// P7.2: the library takes the records that are written.
func TestEncodeLibrary(t *testing.T) {
	path := strings.Repeat("p", 300)
	b, e := pax.Encode(pax.Record{"path", path}, pax.Record{"own.key", "a=b\nc"})
	if e != api.OK {
		t.Fatal(e)
	}
	var out bytes.Buffer
	w := tar.NewWriter(&out)
	if err := w.WriteHeader(&tar.Header{Name: "pax", Typeflag: tar.TypeReg, Size: int64(len(b))}); err != nil {
		t.Fatal(err)
	}
	out.Bytes()[156] = 'x'
	reseal(out.Bytes()[:512])
	if _, err := w.Write(b); err != nil {
		t.Fatal(err)
	}
	if err := w.WriteHeader(&tar.Header{Name: "a", Typeflag: tar.TypeReg}); err != nil {
		t.Fatal(err)
	}
	if err := w.Close(); err != nil {
		t.Fatal(err)
	}
	r := tar.NewReader(&out)
	h, err := r.Next()
	if err != nil || h.Name != path || h.PAXRecords["own.key"] != "a=b\nc" {
		t.Fatalf("%v %v", h, err)
	}
	if _, err := r.Next(); err != io.EOF {
		t.Error(err)
	}
}

// reseal lays the sum of a header that was changed.
func reseal(b []byte) {
	copy(b[148:156], "        ")
	n := 0
	for _, x := range b {
		n += int(x)
	}
	digits := strconv.FormatInt(int64(n), 8)
	copy(b[148:156], strings.Repeat("0", 6-len(digits))+digits+"\x00 ")
}

// P7.4: the last of several; none; an empty value is one.
func TestGet(t *testing.T) {
	list := []pax.Record{{"a", "1"}, {"b", "2"}, {"a", "3"}, {"c", ""}, {"", "4"}, {"b", "5"}, {"b", ""}}
	for key, want := range map[string]string{"a": "3", "b": "", "c": "", "": "4"} {
		if v, ok := pax.Get(list, key); v != want || !ok {
			t.Errorf("Get of %q: %q %v", key, v, ok)
		}
	}
	for _, key := range []string{"d", "A", "a ", " a", "aa", "1", "\x00"} {
		if v, ok := pax.Get(list, key); v != "" || ok {
			t.Errorf("Get of %q: %q %v", key, v, ok)
		}
	}
	if v, ok := pax.Get(nil, "a"); v != "" || ok {
		t.Errorf("Get of no list: %q %v", v, ok)
	}
	if v, ok := pax.Get([]pax.Record{}, ""); v != "" || ok {
		t.Errorf("Get of an empty list: %q %v", v, ok)
	}
	if v, ok := pax.Get(list[:1], "a"); v != "1" || !ok {
		t.Errorf("Get of the first one: %q %v", v, ok)
	}
}

// P7.4: numbers with their one spelling.
func TestNumber(t *testing.T) {
	for _, n := range []int64{0, 1, 7, 9, 10, 99, 100, 1 << 31, 1 << 32, 1 << 53, 1 << 62, math.MaxInt64 - 1, math.MaxInt64, -1, -9, -10, -(1 << 31), math.MinInt64 + 1, math.MinInt64} {
		if got, e := pax.Number(strconv.FormatInt(n, 10)); got != n || e != api.OK {
			t.Errorf("Number of %d: %d %v", n, got, e)
		}
	}
}

// P7.4: what is no number, or none of 64 bits.
func TestNumberRefuses(t *testing.T) {
	for _, s := range []string{
		"", "-", "+", "--1", "+1", "-+1", "-0", "+0", "00", "01", "-01", "007", " 1", "1 ", "1\n", "1\x00", "- 1", "\x00",
		"1.5", "1.0", ".5", "1e3", "0x10", "0b1", "0o7", "1_000", "1,000", "a", "1a", "a1", "٣", "１", "−1", "nan", "inf",
		"9223372036854775808", "-9223372036854775809", "9999999999999999999", "18446744073709551616", "18446744073709551617",
		strings.Repeat("9", 5000), "-" + strings.Repeat("9", 5000), strings.Repeat("0", 5000), "1" + strings.Repeat("0", 5000),
	} {
		if n, e := pax.Number(s); n != 0 || e != api.ErrRecord {
			t.Errorf("Number of %.40q: %d %v", s, n, e)
		}
	}
}

// P2: what is handed in stays as it is, with its spare room, and what is answered has memory of its own.
func TestOwnMemory(t *testing.T) {
	room := []byte("9 path=a\n6 a=1\nspare room")
	kept := slices.Clone(room)
	list, e := pax.Decode(room[:15])
	if e != api.OK || !bytes.Equal(room, kept) {
		t.Fatalf("Decode changed %q, %v", room, e)
	}
	clear(room)
	if want := []pax.Record{{"path", "a"}, {"a", "1"}}; !slices.Equal(list, want) {
		t.Errorf("records share memory: %q", list)
	}

	records := make([]pax.Record, 2, 4)
	copy(records, list)
	whole := slices.Clone(records[:4])
	b, e := pax.Encode(records...)
	c, f := pax.Encode(records...)
	if e != api.OK || f != api.OK || !slices.Equal(records[:4], whole) {
		t.Fatalf("Encode changed %q, %v %v", records[:4], e, f)
	}
	clear(b[:cap(b)])
	if string(c) != "9 path=a\n6 a=1\n" {
		t.Errorf("answers share memory: %q", c)
	}
	if v, ok := pax.Get(records, "a"); v != "1" || !ok || !slices.Equal(records[:4], whole) {
		t.Errorf("Get: %q %v %q", v, ok, records[:4])
	}
}
