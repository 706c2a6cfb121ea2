// Package fault has errors with the place at which they were found, one within the other.
package fault

import (
	"errors"
	"strings"

	"pannier/api"
)

const mark = "at: "

// At is an error with a place; it may be wrapped in others.
type At struct {
	Place int
	Err   error
}

// Error: the word at, and that of the error within.
func (a At) Error() string {
	places, within := strip(a)
	return strings.Repeat(mark, places) + text(within)
}

// Unwrap: the error within.
func (a At) Unwrap() error { return a.Err }

// Wrap: an error with a place; none of none.
func Wrap(err error, place int) error {
	if err == nil {
		return nil
	}
	return At{Place: place, Err: err}
}

// New: an error's number with a place; none of OK.
func New(e api.Errno, place int) error {
	if e == api.OK {
		return nil
	}
	return Wrap(e, place)
}

// Code: the number that is in an error, however deep; OK of none, and of one without a number.
func Code(err error) api.Errno {
	code := api.OK
	guard(func() {
		var found api.Errno
		if errors.As(err, &found) {
			code = found
		}
	})
	return code
}

// Is: is a number in an error, however deep?
func Is(err error, e api.Errno) bool {
	is := false
	guard(func() { is = e != api.OK && errors.Is(err, e) })
	return is
}

// Place: the outermost place that is in an error; -1: there is none.
func Place(err error) int {
	place := -1
	guard(func() {
		var found At
		if errors.As(err, &found) {
			place = found.Place
		}
	})
	return place
}

// Depth: how many places are in an error.
func Depth(err error) int {
	places := 0
	guard(func() {
		for inner := err; inner != nil; inner = errors.Unwrap(inner) {
			if hasPlace(inner) {
				places++
			}
		}
	})
	return places
}

func hasPlace(err error) bool {
	_, ok := err.(At)
	return ok
}

// strip counts the places that lie directly one in the other, and answers what the innermost holds.
// It is a loop because a text built level by level would be copied once a level.
func strip(a At) (int, error) {
	places := 1
	for {
		inner, ok := a.Err.(At)
		if !ok {
			return places, a.Err
		}
		a = inner
		places++
	}
}

// text is empty of none: an At may be made without an error in it.
func text(err error) string {
	words := ""
	guard(func() {
		if err != nil {
			words = err.Error()
		}
	})
	return words
}

// guard keeps panics in: the methods of errors that others made are called in look, and may panic.
// What was found by then stands.
func guard(look func()) {
	defer func() { _ = recover() }()
	look()
}
