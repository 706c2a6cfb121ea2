// Package octal reads and writes the numbers in fields of headers.
package octal

import (
	"math"
	"math/bits"

	"pannier/api"
)

// The first bytes of fields whose number is to the base 256.
const (
	above = 128
	below = 255
)

const (
	minWidth = 2
	maxWidth = 24
)

// The parts of a field of octal digits, in their order.
const (
	ahead = iota
	within
	behind
)

// Parse: the number of a field: octal digits, with blanks ahead, and blanks and noughts behind; or, if its first byte is 128 or 255, the bytes behind as a number to the base 256, below nought if 255.
func Parse(field []byte) (int64, api.Errno) {
	if len(field) == 0 || field[0] < above {
		return parseDigits(field)
	}
	switch field[0] {
	case above:
		return parseBytes(0, field[1:])
	case below:
		return parseBytes(-1, field[1:])
	}
	return 0, api.ErrNumber
}

func parseDigits(field []byte) (int64, api.Errno) {
	var n int64
	part := ahead
	for _, b := range field {
		switch {
		case b == ' ' && part == ahead:
		case '0' <= b && b <= '7' && part != behind:
			if n > math.MaxInt64>>3 {
				return 0, api.ErrNumber
			}
			n = n<<3 | int64(b-'0')
			part = within
		case b == ' ' || b == 0:
			part = behind
		default:
			return 0, api.ErrNumber
		}
	}
	return n, api.OK
}

// parseBytes begins with 0 or -1: from -1 on each byte brings the number that the bytes so far would be, less the power of 256 that is asked for.
func parseBytes(n int64, digits []byte) (int64, api.Errno) {
	for _, b := range digits {
		if n < math.MinInt64>>8 || n > math.MaxInt64>>8 {
			return 0, api.ErrNumber
		}
		n = n<<8 | int64(b)
	}
	return n, api.OK
}

// Fits: does a number fit into a field of so many bytes, with a nought behind?
func Fits(n int64, width int) bool {
	return n >= 0 && width >= minWidth && countDigits(n) < width
}

func countDigits(n int64) int {
	return max(1, (bits.Len64(uint64(n))+2)/3)
}

// Format: a number as a field of so many bytes: octal digits, with noughts ahead, and a byte 0.
func Format(n int64, width int) ([]byte, api.Errno) {
	if width < minWidth || width > maxWidth {
		return nil, api.ErrRange
	}
	if !Fits(n, width) {
		return nil, api.ErrNumber
	}
	field := make([]byte, width)
	for i := width - 2; i >= 0; i-- {
		field[i] = byte('0' + n&7)
		n >>= 3
	}
	return field, api.OK
}
