package kind_test

import (
	"math"
	"testing"

	"pannier/api"
	"pannier/kind"
)

// The classes have the numbers of their order.
func TestClasses(t *testing.T) {
	got := []int{kind.Other, kind.Thing, kind.Local, kind.Global, kind.Name, kind.Link}
	for i, c := range got {
		if c != i {
			t.Errorf("class %d is %d", i, c)
		}
	}
}

type row struct {
	class, kind int
	takes       bool
}

// rows: all types that are something; of all others the row is nothing.
func rows() map[byte]row {
	return map[byte]row{
		0:   {1, 1, true},
		'0': {1, 1, true},
		'7': {1, 1, true},
		'1': {1, 2, false},
		'2': {1, 3, false},
		'5': {1, 4, false},
		'x': {2, 0, true},
		'g': {3, 0, true},
		'L': {4, 0, true},
		'K': {5, 0, true},
	}
}

// P8.1: Class and Takes, of every byte.
func TestClass(t *testing.T) {
	all := rows()
	for n := range 256 {
		typ := byte(n)
		if got := kind.Class(typ); got != all[typ].class {
			t.Errorf("Class(%q): %d", typ, got)
		}
		if got := kind.Takes(typ); got != all[typ].takes {
			t.Errorf("Takes(%q): %v", typ, got)
		}
	}
}

// P8.1: letters of the other case, and types of devices, are Other.
func TestOther(t *testing.T) {
	for _, typ := range []byte("XGlk34689SMVDNAI \x80\xff") {
		if kind.Class(typ) != kind.Other || kind.Takes(typ) || kind.Kind(typ) != 0 {
			t.Errorf("%q isn't Other", typ)
		}
	}
}

// P8.2: Kind, of every byte.
func TestKind(t *testing.T) {
	all := rows()
	for n := range 256 {
		typ := byte(n)
		if got := kind.Kind(typ); got != all[typ].kind {
			t.Errorf("Kind(%q): %d", typ, got)
		}
	}
}

// P8.2: Type of the four kinds, and of numbers that are none.
func TestType(t *testing.T) {
	want := map[int]byte{api.File: '0', api.Hard: '1', api.Soft: '2', api.Dir: '5'}
	numbers := []int{math.MinInt, math.MinInt32, math.MaxInt32, math.MaxInt, 1<<32 + api.File, 1<<8 + api.Dir}
	for k := -300; k <= 300; k++ {
		numbers = append(numbers, k)
	}
	for _, k := range numbers {
		if got := kind.Type(k); got != want[k] {
			t.Errorf("Type(%d): %q", k, got)
		}
	}
}

// P8.2: a kind's type is of that kind, and its class is Thing.
func TestBack(t *testing.T) {
	for k := api.File; k <= api.Dir; k++ {
		if typ := kind.Type(k); kind.Kind(typ) != k || kind.Class(typ) != kind.Thing {
			t.Errorf("%d: %q is %d", k, typ, kind.Kind(typ))
		}
	}
}
