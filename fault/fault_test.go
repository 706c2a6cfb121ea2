package fault_test

import (
	"errors"
	"fmt"
	"math"
	"slices"
	"strings"
	"testing"

	"pannier/api"
	"pannier/fault"
)

var places = []int{math.MinInt, -2, -1, 0, 1, 7, math.MaxInt}

var numbers = []api.Errno{
	api.ErrRange, api.ErrLong, api.ErrFull, api.ErrMissing, api.ErrShort, api.ErrNumber, api.ErrSum,
	api.ErrRecord, api.ErrKind, api.ErrEntry, api.ErrEmpty, api.ErrNul, api.ErrText, api.ErrAbsolute,
	api.ErrDots, api.ErrEscape, api.ErrArchive, api.ErrClash, api.ErrQuota, api.ErrRatio, api.ErrState,
	api.ErrWord, -1, 999, math.MinInt, math.MaxInt,
}

// list can't be compared with ==.
type list []int

func (l list) Error() string { return fmt.Sprint([]int(l)) }

// wild panics wherever it is asked.
type wild struct{}

func (wild) Error() string   { panic("Error") }
func (wild) Unwrap() error   { panic("Unwrap") }
func (wild) Is(error) bool   { panic("Is") }
func (wild) As(any) bool     { panic("As") }
func around(err error) error { return fmt.Errorf("around: %w", err) }

// liar writes to where a number goes, but says that it is none.
type liar struct{}

func (liar) Error() string { return "liar" }
func (liar) As(to any) bool {
	switch x := to.(type) {
	case *api.Errno:
		*x = api.ErrFull
	case *fault.At:
		x.Place = 9
	}
	return false
}

// P1.1
func TestWrap(t *testing.T) {
	plain := errors.New("plain")
	for _, place := range places {
		if got := fault.Wrap(nil, place); got != nil {
			t.Errorf("Wrap of none at %d: %v", place, got)
		}
		for _, err := range []error{plain, api.ErrSum, api.OK, fault.New(api.ErrSum, 7), around(plain)} {
			if got := fault.Wrap(err, place); got != (fault.At{Place: place, Err: err}) {
				t.Errorf("Wrap(%v, %d): %v", err, place, got)
			}
		}
	}
}

// P1.1
func TestNew(t *testing.T) {
	for _, place := range places {
		if got := fault.New(api.OK, place); got != nil {
			t.Errorf("New of OK at %d: %v", place, got)
		}
		for _, e := range numbers {
			if got := fault.New(e, place); got != (fault.At{Place: place, Err: e}) {
				t.Errorf("New(%v, %d): %v", e, place, got)
			}
		}
	}
}

// Types: At
func TestAt(t *testing.T) {
	plain := errors.New("plain")
	for _, c := range []struct {
		at   fault.At
		text string
	}{
		{fault.At{Place: 3, Err: plain}, "at: plain"},
		{fault.At{Place: 3, Err: api.ErrSum}, "at: errno 50"},
		{fault.At{Place: 3, Err: fault.At{Place: 4, Err: plain}}, "at: at: plain"},
		{fault.At{Place: 3, Err: &fault.At{Place: 4, Err: plain}}, "at: at: plain"},
		{fault.At{Place: 3, Err: around(fault.At{Place: 4, Err: plain})}, "at: around: at: plain"},
		{fault.At{Place: 3, Err: errors.Join(plain, api.ErrSum)}, "at: plain\nerrno 50"},
		{fault.At{Place: 3, Err: errors.New("")}, "at: "},
		{fault.At{}, "at: "},
	} {
		if got := c.at.Error(); got != c.text {
			t.Errorf("Error of %#v: %q, not %q", c.at, got, c.text)
		}
		if got := c.at.Unwrap(); got != c.at.Err {
			t.Errorf("Unwrap of %#v: %v", c.at, got)
		}
	}
}

// P1.2
func TestCode(t *testing.T) {
	for _, e := range numbers {
		for _, err := range []error{
			e, fault.New(e, 7), fault.Wrap(fault.New(e, 7), 3), around(e), around(fault.New(e, 7)),
			fault.Wrap(around(e), 3), &fault.At{Err: e}, errors.Join(errors.New("plain"), e, api.ErrState),
			errors.Join(around(fault.New(e, 7)), api.ErrState), errors.Join(liar{}, e),
		} {
			if got := fault.Code(err); got != e {
				t.Errorf("Code of %#v: %v, not %v", err, got, e)
			}
		}
	}
	for _, err := range []error{
		nil, api.OK, fault.Wrap(api.OK, 7), errors.New("plain"), fault.Wrap(errors.New("errno 50"), 7),
		fault.At{}, errors.Join(api.OK, api.ErrSum), list{1}, liar{}, fault.Wrap(liar{}, 7),
	} {
		if got := fault.Code(err); got != api.OK {
			t.Errorf("Code of %#v: %v, not OK", err, got)
		}
	}
}

// P1.2
func TestIs(t *testing.T) {
	for _, e := range numbers {
		for _, err := range []error{
			e, fault.New(e, 7), fault.Wrap(fault.New(e, 7), 3), around(e), fault.Wrap(around(e), 3), &fault.At{Err: e},
			errors.Join(errors.New("plain"), e), errors.Join(list{1}, api.OK, fault.Wrap(around(e), 3)),
		} {
			if !fault.Is(err, e) {
				t.Errorf("%v isn't in %#v", e, err)
			}
			for _, other := range numbers {
				if other != e && fault.Is(err, other) {
					t.Errorf("%v is in %#v", other, err)
				}
			}
		}
		for _, err := range []error{nil, api.OK, fault.Wrap(api.OK, 7), fault.At{}, errors.New(e.Error()), list{int(e)}} {
			if fault.Is(err, e) {
				t.Errorf("%v is in %#v", e, err)
			}
		}
	}
	if err := errors.Join(api.ErrSum, api.ErrFull); !fault.Is(err, api.ErrSum) || !fault.Is(err, api.ErrFull) {
		t.Error("one of two isn't in them")
	}
	for _, err := range []error{nil, api.OK, fault.Wrap(api.OK, 7), errors.New("errno 0"), fault.New(api.ErrSum, 0)} {
		if fault.Is(err, api.OK) {
			t.Errorf("OK is in %#v", err)
		}
	}
}

// P1.3
func TestPlace(t *testing.T) {
	for _, place := range places {
		at := fault.New(api.ErrSum, place)
		for _, err := range []error{
			at, fault.Wrap(at, place), fault.Wrap(fault.New(api.ErrSum, 5), place), fault.At{Place: place},
			around(at), around(around(fault.Wrap(around(fault.New(api.ErrSum, 5)), place))),
			errors.Join(errors.New("plain"), at, fault.New(api.ErrSum, 5)), errors.Join(liar{}, at),
		} {
			if got := fault.Place(err); got != place {
				t.Errorf("Place of %#v: %d, not %d", err, got, place)
			}
		}
	}
	for _, err := range []error{
		nil, api.OK, api.ErrSum, errors.New("at: plain"), around(api.ErrSum), errors.Join(api.ErrSum), list{1}, liar{},
	} {
		if got := fault.Place(err); got != -1 {
			t.Errorf("Place of %#v: %d, not -1", err, got)
		}
	}
}

// P1.3
func TestDepth(t *testing.T) {
	plain := errors.New("plain")
	at := fault.New(api.ErrSum, 7)
	for _, c := range []struct {
		err   error
		depth int
	}{
		{nil, 0},
		{api.OK, 0},
		{api.ErrSum, 0},
		{plain, 0},
		{around(plain), 0},
		{list{1}, 0},
		{fault.At{}, 1},
		{at, 1},
		{around(at), 1},
		{around(around(at)), 1},
		{fault.Wrap(plain, 3), 1},
		{fault.Wrap(api.OK, 3), 1},
		{fault.Wrap(list{1}, 3), 1},
		{fault.Wrap(at, 7), 2},
		{fault.Wrap(around(at), 3), 2},
		{around(fault.Wrap(around(fault.Wrap(at, 4)), 3)), 3},
		{errors.Join(at), 0}, // a list isn't unwrapped one after the other
		{fault.Wrap(errors.Join(at, at), 3), 1},
	} {
		if got := fault.Depth(c.err); got != c.depth {
			t.Errorf("Depth of %#v: %d, not %d", c.err, got, c.depth)
		}
	}
}

// P1: errors that others made may panic, and may have nothing in them.
func TestAwkward(t *testing.T) {
	var none *fault.At
	for _, err := range []error{
		nil, wild{}, &wild{}, none, fault.At{}, &fault.At{}, list(nil), around(wild{}), errors.Join(none, wild{}), errors.Join(),
	} {
		wrapped := fault.Wrap(err, 7)
		for _, e := range append(slices.Clone(numbers), api.OK) {
			if fault.Is(err, e) || fault.Is(wrapped, e) {
				t.Errorf("%v is in %#v", e, err)
			}
		}
		if fault.Code(err) != api.OK || fault.Code(wrapped) != api.OK {
			t.Errorf("a number is in %#v", err)
		}
		if fault.Place(err) != -1 && err != (fault.At{}) {
			t.Errorf("a place is in %#v", err)
		}
		depth := fault.Depth(err)
		if err == nil {
			continue
		}
		if fault.Place(wrapped) != 7 || fault.Depth(wrapped) != depth+1 {
			t.Errorf("%#v, wrapped: place %d, depth %d", err, fault.Place(wrapped), fault.Depth(wrapped))
		}
		if !strings.HasPrefix(wrapped.Error(), "at: ") {
			t.Errorf("the text of %#v, wrapped: %q", err, wrapped.Error())
		}
	}
}

// P1: as many in one another as the document lets be.
func TestDeep(t *testing.T) {
	const most = 1 << 16
	err := error(api.ErrSum)
	for i := range most {
		err = fault.Wrap(err, i)
	}
	if fault.Code(err) != api.ErrSum || !fault.Is(err, api.ErrSum) || fault.Is(err, api.ErrFull) {
		t.Error("the number isn't found")
	}
	if fault.Place(err) != most-1 || fault.Depth(err) != most {
		t.Errorf("place %d, depth %d", fault.Place(err), fault.Depth(err))
	}
	if err.Error() != strings.Repeat("at: ", most)+"errno 50" {
		t.Error("the text")
	}
}

// P2: what is wrapped stays as it is, and errors made of one don't touch each other.
func TestApart(t *testing.T) {
	inner := list{1, 2, 3}
	one := fault.Wrap(inner[:2], 1)
	two := fault.Wrap(one, 2)
	three := fault.Wrap(one, 3)
	for range 2 {
		for i, err := range []error{one, two, three} {
			if fault.Place(err) != i+1 || fault.Code(err) != api.OK || fault.Is(err, api.ErrSum) {
				t.Errorf("error %d: place %d, number %v", i, fault.Place(err), fault.Code(err))
			}
		}
		if fault.Depth(one) != 1 || fault.Depth(two) != 2 || fault.Depth(three) != 2 {
			t.Error("the depths")
		}
		if two.Error() != "at: at: [1 2]" || !slices.Equal(inner, list{1, 2, 3}) {
			t.Errorf("%v of %v", two, inner)
		}
	}
}
