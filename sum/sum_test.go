package sum_test

import (
	"bytes"
	"math/rand"
	"slices"
	"testing"

	"pannier/api"
	"pannier/octal"
	"pannier/sum"
)

// reckon tells what the document asks: the sums with each byte as it is, and with those above 127 as 256 less.
func reckon(b []byte) (plain, signed int) {
	for i, x := range b {
		n := int(x)
		if i >= 148 && i <= 155 {
			n = 32
		}
		plain += n
		if n > 127 {
			n -= 256
		}
		signed += n
	}
	return plain, signed
}

func checkSums(t *testing.T, b []byte) {
	t.Helper()
	plain, signed := reckon(b)
	if sum.Plain(b) != plain || sum.Signed(b) != signed {
		t.Errorf("sums of %d bytes: %d %d, not %d %d", len(b), sum.Plain(b), sum.Signed(b), plain, signed)
	}
}

func randomBytes(r *rand.Rand, n int) []byte {
	b := make([]byte, n)
	for i := range b {
		b[i] = byte(r.Intn(256))
	}
	return b
}

// bear is b with these bytes as its sum.
func bear(b []byte, field string) []byte {
	c := slices.Clone(b)
	copy(c[148:156], field)
	return c
}

// The places and the length are those of the document.
func TestPlaces(t *testing.T) {
	if sum.Block != 512 || sum.Begin != 148 || sum.End != 156 {
		t.Errorf("places: %d %d %d", sum.Block, sum.Begin, sum.End)
	}
}

// The document's example.
func TestExample(t *testing.T) {
	b := make([]byte, 512)
	if sum.Plain(b) != 256 || sum.Signed(b) != 256 {
		t.Errorf("sums of noughts: %d %d", sum.Plain(b), sum.Signed(b))
	}
	sealed, e := sum.Seal(b)
	if want := bear(b, "000400\x00 "); e != api.OK || !bytes.Equal(sealed, want) {
		t.Errorf("Seal of noughts: %q %v", sealed, e)
	}
}

// P5.1: each byte counts as it is, or 256 less above 127.
func TestEachByte(t *testing.T) {
	for x := range 256 {
		b := []byte{byte(x)}
		signed := x
		if x > 127 {
			signed -= 256
		}
		if sum.Plain(b) != x || sum.Signed(b) != signed {
			t.Errorf("sums of %d: %d %d", x, sum.Plain(b), sum.Signed(b))
		}
	}
}

// P5.1: the bytes from 148 to 155 are blanks, whatever they are, those beside them aren't.
func TestBlanks(t *testing.T) {
	for i := range 512 {
		for _, x := range []byte{1, 32, 127, 128, 255} {
			b := make([]byte, 512)
			b[i] = x
			plain, signed := 256+int(x), 256+int(int8(x))
			if i >= 148 && i <= 155 {
				plain, signed = 256, 256
			}
			if sum.Plain(b) != plain || sum.Signed(b) != signed {
				t.Errorf("a byte %d at %d: %d %d", x, i, sum.Plain(b), sum.Signed(b))
			}
		}
	}
}

// P5.1, P1: bytes of any length have sums.
func TestAnyLength(t *testing.T) {
	r := rand.New(rand.NewSource(1))
	checkSums(t, nil)
	for n := range 700 {
		checkSums(t, randomBytes(r, n))
	}
	checkSums(t, bytes.Repeat([]byte{255}, 1<<20))
}

// P5.2: either sum is right, any other isn't.
func TestRight(t *testing.T) {
	r := rand.New(rand.NewSource(2))
	for range 200 {
		b := randomBytes(r, 512)
		plain, signed := reckon(b)
		for n := range 300 {
			for _, number := range []int{plain - 150 + n, signed - 150 + n} {
				field, e := octal.Format(int64(number), 8)
				if e != api.OK {
					continue
				}
				if sum.Right(bear(b, string(field))) != (number == plain || number == signed) {
					t.Fatalf("the sum %d of %d, %d", number, plain, signed)
				}
			}
		}
	}
}

// P5.2: the sum is any number that layer 2 reads.
func TestRightForms(t *testing.T) {
	low := bytes.Repeat([]byte{255}, 512) // its signed sum is -248
	for _, c := range []struct {
		b     []byte
		field string
		right bool
	}{
		{make([]byte, 512), "000400\x00 ", true},
		{make([]byte, 512), "00000400", true},
		{make([]byte, 512), "    400 ", true},
		{make([]byte, 512), "400\x00\x00\x00\x00\x00", true},
		{make([]byte, 512), "\x80\x00\x00\x00\x00\x00\x01\x00", true},
		{make([]byte, 512), "\x80\x00\x00\x00\x00\x00\x01\x01", false},
		{make([]byte, 512), "\x81\x00\x00\x00\x00\x00\x01\x00", false},
		{make([]byte, 512), "\x00400    ", false},
		{make([]byte, 512), "400x    ", false},
		{make([]byte, 512), "0000408 ", false},
		{make([]byte, 512), "000401\x00 ", false},
		{make([]byte, 512), "\x00\x00\x00\x00\x00\x00\x00\x00", false},
		{low, "\xff\xff\xff\xff\xff\xff\xff\x08", true},
		{low, "\xff\xff\xff\xff\xff\xff\xff\x09", false},
		{low, "0373410\x00", true},
		{low, "0373411\x00", false},
	} {
		if sum.Right(bear(c.b, c.field)) != c.right {
			t.Errorf("the sum %q: not %v", c.field, c.right)
		}
	}
	// A sum of 0: a field that can't be read isn't it.
	b := bytes.Repeat([]byte{255}, 256)
	b = append(b, make([]byte, 248)...)
	b = slices.Insert(b, 148, []byte("xxxxxxxx")...)
	if _, signed := reckon(b); signed != 0 || sum.Right(b) || !sum.Right(bear(b, "00000000")) {
		t.Errorf("a sum of 0: %d", signed)
	}
}

// P5.2: what hasn't 512 bytes isn't right, even if it bears its sum.
func TestRightLengths(t *testing.T) {
	for _, n := range []int{0, 1, 147, 148, 150, 156, 157, 511, 512, 513, 1024} {
		b := make([]byte, n)
		if n >= 156 {
			plain, _ := reckon(b)
			field, _ := octal.Format(int64(plain), 8)
			b = bear(b, string(field))
		}
		if sum.Right(b) != (n == 512) {
			t.Errorf("%d bytes: %v", n, sum.Right(b))
		}
	}
	if sum.Right(nil) {
		t.Error("no bytes")
	}
}

// P5.3: the sum is laid into its field, all else stays.
func TestSeal(t *testing.T) {
	r := rand.New(rand.NewSource(3))
	blocks := [][]byte{make([]byte, 512), bytes.Repeat([]byte{255}, 512), bytes.Repeat([]byte{127}, 512)}
	for range 500 {
		blocks = append(blocks, randomBytes(r, 512))
	}
	for _, b := range blocks {
		plain, _ := reckon(b)
		digits := []byte("000000\x00 ")
		for i, n := 5, plain; n > 0; i, n = i-1, n/8 {
			digits[i] += byte(n % 8)
		}
		sealed, e := sum.Seal(b)
		if e != api.OK || !bytes.Equal(sealed, bear(b, string(digits))) || !sum.Right(sealed) {
			t.Errorf("Seal of a sum %d: %q %v", plain, sealed[148:156], e)
		}
		again, e := sum.Seal(sealed)
		if e != api.OK || !bytes.Equal(again, sealed) {
			t.Errorf("sealed twice: %q %v", again[148:156], e)
		}
	}
}

// P5.3: what hasn't 512 bytes isn't sealed.
func TestSealLengths(t *testing.T) {
	for _, n := range []int{0, 1, 148, 156, 511, 513, 1024} {
		if sealed, e := sum.Seal(make([]byte, n, 2048)); sealed != nil || e != api.ErrRange {
			t.Errorf("Seal of %d bytes: %v %v", n, sealed, e)
		}
	}
	if sealed, e := sum.Seal(nil); sealed != nil || e != api.ErrRange {
		t.Errorf("Seal of nothing: %v %v", sealed, e)
	}
}

// P2: what is handed in stays, with its spare room, and what is answered is new.
func TestMemory(t *testing.T) {
	r := rand.New(rand.NewSource(4))
	whole := randomBytes(r, 1024)
	before := slices.Clone(whole)
	b := whole[:512]
	sum.Plain(b)
	sum.Signed(b)
	sum.Right(b)
	first, _ := sum.Seal(b)
	second, _ := sum.Seal(b)
	if !bytes.Equal(whole, before) {
		t.Error("an argument was changed")
	}
	kept := slices.Clone(second)
	spoil(first[:cap(first)])
	if !bytes.Equal(whole, before) || !bytes.Equal(second, kept) {
		t.Error("an answer shares memory with its argument, or with another answer")
	}
	spoil(whole)
	if !bytes.Equal(second, kept) {
		t.Error("an answer shares memory with its argument")
	}
}

func spoil(b []byte) {
	for i := range b {
		b[i] ^= 255
	}
}
