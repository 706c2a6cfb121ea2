package octal_test

import (
	"bytes"
	"math"
	"math/big"
	"regexp"
	"slices"
	"strings"
	"testing"

	"pannier/api"
	"pannier/octal"
)

var digits = regexp.MustCompile(`^ *([0-7]*)[ \x00]*$`)

// expect tells what the document asks of a field, with numbers of any size.
func expect(field []byte) (int64, api.Errno) {
	n := new(big.Int)
	switch {
	case len(field) == 0 || field[0] < 128:
		m := digits.FindSubmatch(field)
		if m == nil {
			return 0, api.ErrNumber
		}
		n.SetString("0"+string(m[1]), 8)
	case field[0] == 128 || field[0] == 255:
		n.SetBytes(field[1:])
		if field[0] == 255 {
			n.Sub(n, new(big.Int).Exp(big.NewInt(256), big.NewInt(int64(len(field)-1)), nil))
		}
	default:
		return 0, api.ErrNumber
	}
	if !n.IsInt64() {
		return 0, api.ErrNumber
	}
	return n.Int64(), api.OK
}

func checkParse(t *testing.T, field []byte) {
	t.Helper()
	n, e := octal.Parse(field)
	if wantN, wantE := expect(field); n != wantN || e != wantE {
		t.Errorf("Parse of %q: %d %v, not %d %v", field, n, e, wantN, wantE)
	}
}

// eachField calls look with all fields of these bytes that are at most so long.
func eachField(alphabet string, most int, look func([]byte)) {
	var grow func(field []byte)
	grow = func(field []byte) {
		look(field)
		if len(field) == most {
			return
		}
		for _, b := range []byte(alphabet) {
			grow(append(slices.Clone(field), b))
		}
	}
	grow(nil)
}

// P2.1
func TestParseDigits(t *testing.T) {
	for s, n := range map[string]int64{
		"":                             0,
		"\x00":                         0,
		" ":                            0,
		"  \x00 \x00":                  0,
		"0":                            0,
		"7":                            7,
		"10":                           8,
		"0000644\x00":                  420,
		"   644 ":                      420,
		"644\x00 \x00 ":                420,
		"00000000000\x00":              0,
		"77777777777":                  1<<33 - 1,
		"777777777777777777777":        math.MaxInt64,
		"0777777777777777777777\x00":   math.MaxInt64,
		strings.Repeat("0", 500) + "1": 1,
		strings.Repeat(" ", 500) + "1": 1,
	} {
		if got, e := octal.Parse([]byte(s)); got != n || e != api.OK {
			t.Errorf("Parse of %q: %d %v, not %d", s, got, e, n)
		}
	}
	for _, s := range []string{
		"8", "9", "78", "/", ":", "a", "-1", "+1", "0x1", "1 2", "1\x002", "\x001", " \x001", "1\t", "\t1", "1\x7f", "1\x80", "1\xff",
		"1000000000000000000000", "7777777777777777777777", "1777777777777777777777", strings.Repeat("7", 500), "1000000000000000000000x",
	} {
		if n, e := octal.Parse([]byte(s)); n != 0 || e != api.ErrNumber {
			t.Errorf("Parse of %q: %d %v", s, n, e)
		}
	}
}

// P2.2
func TestParseBytes(t *testing.T) {
	for s, n := range map[string]int64{
		"\x80":         0,
		"\x80\x00":     0,
		"\x80\x01":     1,
		"\x80\xff":     255,
		"\x80\x01\x02": 258,
		"\x80\x00\x00\x00\x01\x00\x00\x00\x00\x00\x00\x00": 1 << 56,
		"\x80\x7f\xff\xff\xff\xff\xff\xff\xff":             math.MaxInt64,
		"\x80\x00\x00\x7f\xff\xff\xff\xff\xff\xff\xff":     math.MaxInt64,
		"\xff":                                 -1,
		"\xff\xff":                             -1,
		"\xff\xfe":                             -2,
		"\xff\x00":                             -256,
		"\xff\x01\x02":                         258 - 1<<16,
		"\xff\x80\x00\x00\x00\x00\x00\x00\x00": math.MinInt64,
		"\xff\xff\xff\x80\x00\x00\x00\x00\x00\x00\x00": math.MinInt64,
		"\x80" + strings.Repeat("\x00", 500) + "\x07":  7,
		"\xff" + strings.Repeat("\xff", 500) + "\x07":  -249,
	} {
		if got, e := octal.Parse([]byte(s)); got != n || e != api.OK {
			t.Errorf("Parse of %q: %d %v, not %d", s, got, e, n)
		}
	}
	for _, s := range []string{
		"\x80\x80\x00\x00\x00\x00\x00\x00\x00", "\x80\xff\xff\xff\xff\xff\xff\xff\xff", "\x80\x01\x00\x00\x00\x00\x00\x00\x00\x00",
		"\xff\x7f\xff\xff\xff\xff\xff\xff\xff", "\xff\x00\x00\x00\x00\x00\x00\x00\x00", "\xff\xfe\xff\xff\xff\xff\xff\xff\xff\xff",
		"\x80" + strings.Repeat("\x01", 500), "\xff" + strings.Repeat("\x01", 500),
	} {
		if n, e := octal.Parse([]byte(s)); n != 0 || e != api.ErrNumber {
			t.Errorf("Parse of %q: %d %v", s, n, e)
		}
	}
	for b := 129; b < 255; b++ {
		for _, s := range []string{"", "\x00", "0", "7 "} {
			if n, e := octal.Parse(append([]byte{byte(b)}, s...)); n != 0 || e != api.ErrNumber {
				t.Errorf("Parse of a byte %d and %q: %d %v", b, s, n, e)
			}
		}
	}
}

// P1, P2.1, P2.2
func TestParseAll(t *testing.T) {
	every := make([]byte, 256)
	for i := range every {
		every[i] = byte(i)
	}
	eachField(string(every), 2, func(field []byte) { checkParse(t, field) })
	eachField("\x00 078\x80\xff", 5, func(field []byte) { checkParse(t, field) })
	for _, first := range []string{"\x80", "\xff", "\x80\x00\x00", "\xff\xff\xff"} {
		for _, last := range []string{"\x00\x00\x00\x00\x00", "\xff\xff\xff\xff\xff", "\x01\x02\x03\x04\x05"} {
			eachField("\x00\x01\x7f\x80\xfe\xff", 4, func(field []byte) {
				checkParse(t, []byte(first+string(field)+last))
			})
		}
	}
	for n := int64(math.MaxInt64); n > 0; n >>= 1 {
		text := big.NewInt(n).Text(8)
		for _, s := range []string{text, "1" + text, text + "0", "  " + text + " \x00"} {
			checkParse(t, []byte(s))
		}
	}
}

// fits tells what the document asks, by the digits written out.
func fits(n int64, width int) bool {
	return n >= 0 && width >= 2 && len(big.NewInt(n).Text(8)) < width
}

// eachPair calls look with numbers and widths at all edges.
func eachPair(look func(n int64, width int)) {
	numbers := []int64{math.MinInt64, math.MinInt64 + 1, -420, -8, -1, 0, 420, math.MaxInt64}
	for shift := range 63 {
		numbers = append(numbers, 1<<shift-1, 1<<shift, 1<<shift+1)
	}
	widths := []int{math.MinInt, -24, math.MaxInt32, math.MaxInt - 1, math.MaxInt}
	for width := -3; width < 40; width++ {
		widths = append(widths, width)
	}
	for _, n := range numbers {
		for _, width := range widths {
			look(n, width)
		}
	}
}

// P1, P2.3
func TestFits(t *testing.T) {
	for _, c := range []struct {
		n     int64
		width int
		fits  bool
	}{
		{0, 2, true}, {7, 2, true}, {8, 2, false}, {63, 3, true}, {64, 3, false}, {0, 1, false}, {0, 0, false}, {0, -2, false},
		{-1, 8, false}, {-1, 100, false}, {1<<21 - 1, 8, true}, {1 << 21, 8, false}, {1<<33 - 1, 12, true}, {1 << 33, 12, false},
		{math.MaxInt64, 21, false}, {math.MaxInt64, 22, true}, {math.MaxInt64, 25, true}, {math.MaxInt64, math.MaxInt, true},
	} {
		if got := octal.Fits(c.n, c.width); got != c.fits {
			t.Errorf("Fits(%d, %d): %v", c.n, c.width, got)
		}
	}
	eachPair(func(n int64, width int) {
		if got := octal.Fits(n, width); got != fits(n, width) {
			t.Errorf("Fits(%d, %d): %v", n, width, got)
		}
	})
}

// P1, P2.3
func TestFormat(t *testing.T) {
	for _, c := range []struct {
		n     int64
		width int
		text  string
		e     api.Errno
	}{
		{420, 8, "0000644\x00", api.OK}, {0, 2, "0\x00", api.OK}, {7, 2, "7\x00", api.OK}, {8, 3, "10\x00", api.OK},
		{0, 8, "0000000\x00", api.OK}, {1<<33 - 1, 12, "77777777777\x00", api.OK}, {0, 24, strings.Repeat("0", 23) + "\x00", api.OK},
		{math.MaxInt64, 22, strings.Repeat("7", 21) + "\x00", api.OK}, {math.MaxInt64, 24, "00" + strings.Repeat("7", 21) + "\x00", api.OK},
		{8, 2, "", api.ErrNumber}, {-1, 8, "", api.ErrNumber}, {math.MinInt64, 24, "", api.ErrNumber}, {math.MaxInt64, 21, "", api.ErrNumber},
		{0, 1, "", api.ErrRange}, {0, 25, "", api.ErrRange}, {0, 0, "", api.ErrRange}, {0, -8, "", api.ErrRange},
		{-1, 1, "", api.ErrRange}, {-1, 25, "", api.ErrRange}, {8, 1, "", api.ErrRange}, {1, math.MaxInt, "", api.ErrRange}, {1, math.MinInt, "", api.ErrRange},
	} {
		if b, e := octal.Format(c.n, c.width); string(b) != c.text || e != c.e {
			t.Errorf("Format(%d, %d): %q %v", c.n, c.width, b, e)
		}
	}
	eachPair(func(n int64, width int) {
		b, e := octal.Format(n, width)
		switch {
		case width < 2 || width > 24:
			if len(b) != 0 || e != api.ErrRange {
				t.Errorf("Format(%d, %d): %q %v", n, width, b, e)
			}
		case !fits(n, width):
			if len(b) != 0 || e != api.ErrNumber {
				t.Errorf("Format(%d, %d): %q %v", n, width, b, e)
			}
		default:
			text := big.NewInt(n).Text(8)
			if want := strings.Repeat("0", width-1-len(text)) + text + "\x00"; string(b) != want || e != api.OK {
				t.Errorf("Format(%d, %d): %q %v", n, width, b, e)
			}
			if back, e := octal.Parse(b); back != n || e != api.OK {
				t.Errorf("Parse of %q: %d %v", b, back, e)
			}
		}
	})
}

// P2: a field is neither changed nor kept, nor what lies behind it looked at.
func TestParseApart(t *testing.T) {
	for _, s := range []string{"", " 12 \x00", "12x", "\x80\x01\x02", "\xff\xff\x01", "\x81\x00", "\x80\x80\x00\x00\x00\x00\x00\x00\x00"} {
		for _, spare := range []string{"77777777", "\x00\x00\x00\x00", "xxxx"} {
			room := []byte(s + spare)
			wantN, wantE := octal.Parse([]byte(s))
			for range 2 {
				if n, e := octal.Parse(room[:len(s)]); n != wantN || e != wantE {
					t.Errorf("Parse of %q ahead of %q: %d %v, not %d %v", s, spare, n, e, wantN, wantE)
				}
			}
			if string(room) != s+spare {
				t.Errorf("%q became %q", s+spare, room)
			}
		}
	}
}

// P2: each field that is answered is new memory, its spare room too.
func TestFormatApart(t *testing.T) {
	for width := 2; width <= 24; width++ {
		one, _ := octal.Format(5, width)
		two, _ := octal.Format(5, width)
		want := bytes.Clone(two)
		spoil := one[:cap(one)]
		for i := range spoil {
			spoil[i] = 'x'
		}
		three, _ := octal.Format(5, width)
		if !bytes.Equal(two, want) || !bytes.Equal(three, want) {
			t.Errorf("width %d: %q and %q, not %q", width, two, three, want)
		}
	}
}
