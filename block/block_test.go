package block_test

import (
	"bytes"
	"math"
	"math/rand"
	"testing"

	"pannier/api"
	"pannier/block"
)

func newArena(t *testing.T, blocks int) *block.Arena {
	t.Helper()
	a, e := block.New(blocks)
	if e != api.OK || a == nil {
		t.Fatalf("New(%d): %v", blocks, e)
	}
	return a
}

func take(t *testing.T, a *block.Arena) int {
	t.Helper()
	id, e := a.Take()
	if e != api.OK {
		t.Fatalf("Take: %v", e)
	}
	return id
}

func readAll(t *testing.T, a *block.Arena, id int) string {
	t.Helper()
	b, e := a.Read(id, 0, block.Size)
	if e != api.OK {
		t.Fatalf("Read of %d: %v", id, e)
	}
	return string(b)
}

// The limits of DOC.md, section Words.
func TestLimits(t *testing.T) {
	if block.Size != 64 || block.MaxBlocks != 16384 || block.MaxHolds != 1073741824 {
		t.Error("the limits")
	}
}

// P3.1: a store has as many blocks as asked for, from 0 to MaxBlocks.
func TestNew(t *testing.T) {
	for _, n := range []int{0, 1, 2, 63, 64, 65, block.MaxBlocks - 1, block.MaxBlocks} {
		a := newArena(t, n)
		if a.Len() != n || a.Free() != n {
			t.Errorf("New(%d): %d blocks, %d free", n, a.Len(), a.Free())
		}
	}
	for _, n := range []int{-1, block.MaxBlocks + 1, math.MinInt, math.MaxInt} {
		if a, e := block.New(n); a != nil || e != api.ErrRange {
			t.Errorf("New(%d): %v, %v", n, a, e)
		}
	}
}

// P3.1: each block of the store is taken once, held once and all noughts; then the store is full.
func TestTake(t *testing.T) {
	for _, n := range []int{0, 1, 5, block.MaxBlocks} {
		a := newArena(t, n)
		seen := make([]bool, n)
		for i := range n {
			id := take(t, a)
			if id < 0 || id >= n || seen[id] {
				t.Fatalf("of %d: block %d", n, id)
			}
			seen[id] = true
			if a.Holds(id) != 1 || a.Free() != n-i-1 || a.Len() != n {
				t.Fatalf("of %d: held %d times, %d free, %d blocks", n, a.Holds(id), a.Free(), a.Len())
			}
			if readAll(t, a, id) != string(make([]byte, block.Size)) {
				t.Fatalf("of %d: block %d isn't all noughts", n, id)
			}
		}
		for range 2 {
			if id, e := a.Take(); id != 0 || e != api.ErrFull || a.Free() != 0 {
				t.Errorf("of %d, all taken: %d, %v", n, id, e)
			}
		}
	}
}

// P3.1: nothing is left of what stood in a block that was dropped.
func TestTakeAgain(t *testing.T) {
	a := newArena(t, 3)
	for range 10 {
		ids := []int{take(t, a), take(t, a), take(t, a)}
		for _, id := range ids {
			if readAll(t, a, id) != string(make([]byte, block.Size)) {
				t.Fatal("a block that was used isn't all noughts")
			}
			a.Write(id, 0, bytes.Repeat([]byte{'x'}, block.Size))
		}
		for _, id := range ids {
			if e := a.Drop(id); e != api.OK {
				t.Fatal(e)
			}
		}
	}
}

// P3.2: the document's example.
func TestExample(t *testing.T) {
	a := newArena(t, 1)
	id := take(t, a)
	if e := a.Write(id, 3, []byte("ab")); e != api.OK {
		t.Fatal(e)
	}
	if b, e := a.Read(id, 2, 4); string(b) != "\x00ab\x00" || e != api.OK {
		t.Errorf("%q, %v", b, e)
	}
}

// P3.2: every place and length, those that are taken and those that aren't; a refused Write changes nothing.
func TestWriteAndRead(t *testing.T) {
	long := make([]byte, 130)
	for i := range long {
		long[i] = byte(i + 1)
	}
	for at := -2; at <= block.Size+2; at++ {
		for n := 0; n <= len(long); n++ {
			a := newArena(t, 2)
			id, other := take(t, a), take(t, a)
			fill := bytes.Repeat([]byte{200}, block.Size)
			a.Write(id, 0, fill)
			want := bytes.Clone(fill)
			err := api.ErrRange
			if at >= 0 && at+n <= block.Size {
				copy(want[at:], long[:n])
				err = api.OK
			}
			if e := a.Write(id, at, long[:n]); e != err {
				t.Fatalf("Write at %d of %d: %v", at, n, e)
			}
			if readAll(t, a, id) != string(want) || readAll(t, a, other) != string(make([]byte, block.Size)) {
				t.Fatalf("Write at %d of %d: what stands there", at, n)
			}
			b, e := a.Read(id, at, n)
			if e != err || e != api.OK && b != nil {
				t.Fatalf("Read at %d of %d: %v, %v", at, n, b, e)
			}
			if e == api.OK && !bytes.Equal(b, want[at:at+n]) {
				t.Fatalf("Read at %d of %d: %v", at, n, b)
			}
		}
	}
}

// P3.2, P1: numbers that wrap round when they are added up.
func TestWildRanges(t *testing.T) {
	a := newArena(t, 1)
	id := take(t, a)
	for _, at := range []int{math.MinInt, -1, 65, math.MaxInt} {
		if e := a.Write(id, at, nil); e != api.ErrRange {
			t.Errorf("Write at %d: %v", at, e)
		}
		for _, n := range []int{math.MinInt, -1, 0, 1, math.MaxInt} {
			if b, e := a.Read(id, at, n); b != nil || e != api.ErrRange {
				t.Errorf("Read at %d of %d: %v, %v", at, n, b, e)
			}
		}
	}
	for _, n := range []int{math.MinInt, -1, 64, math.MaxInt} {
		if b, e := a.Read(id, 1, n); b != nil || e != api.ErrRange {
			t.Errorf("Read of %d: %v, %v", n, b, e)
		}
	}
}

// P3.2, P3.3: of what isn't held nothing is taken, whatever else is wrong with the call.
func TestMissing(t *testing.T) {
	a := newArena(t, 3)
	held, gone := take(t, a), take(t, a)
	a.Drop(gone)
	never := 3 - held - gone
	for _, id := range []int{gone, never, -1, 3, math.MinInt, math.MaxInt} {
		for _, at := range []int{0, -1, 65} {
			if e := a.Write(id, at, []byte("a")); e != api.ErrMissing {
				t.Errorf("Write to %d: %v", id, e)
			}
			if b, e := a.Read(id, at, 1); b != nil || e != api.ErrMissing {
				t.Errorf("Read of %d: %v, %v", id, b, e)
			}
		}
		if e := a.Hold(id); e != api.ErrMissing {
			t.Errorf("Hold of %d: %v", id, e)
		}
		if e := a.Drop(id); e != api.ErrMissing {
			t.Errorf("Drop of %d: %v", id, e)
		}
		if n := a.Holds(id); n != 0 {
			t.Errorf("Holds of %d: %d", id, n)
		}
	}
	if a.Free() != 2 || a.Len() != 3 || a.Holds(held) != 1 {
		t.Error("refused calls have changed something")
	}
}

// P3.3: a block is free when it has been dropped as often as it was held, not sooner.
func TestHoldAndDrop(t *testing.T) {
	a := newArena(t, 2)
	id := take(t, a)
	a.Write(id, 0, []byte("ab"))
	for i := range 5 {
		if e := a.Hold(id); e != api.OK || a.Holds(id) != i+2 || a.Free() != 1 {
			t.Fatalf("Hold: %v, %d times", e, a.Holds(id))
		}
	}
	for i := 5; i > 0; i-- {
		if e := a.Drop(id); e != api.OK || a.Holds(id) != i || a.Free() != 1 {
			t.Fatalf("Drop: %v, %d times", e, a.Holds(id))
		}
		if b, e := a.Read(id, 0, 3); string(b) != "ab\x00" || e != api.OK {
			t.Fatalf("while it is held: %q, %v", b, e)
		}
	}
	if e := a.Drop(id); e != api.OK || a.Holds(id) != 0 || a.Free() != 2 {
		t.Errorf("the last Drop: %v, %d times, %d free", e, a.Holds(id), a.Free())
	}
	if e := a.Drop(id); e != api.ErrMissing || a.Free() != 2 {
		t.Errorf("one Drop more: %v, %d free", e, a.Free())
	}
}

// P3.3: a block is held MaxHolds times at most.
func TestMaxHolds(t *testing.T) {
	a := newArena(t, 1)
	id := take(t, a)
	for a.Holds(id) < block.MaxHolds {
		if e := a.Hold(id); e != api.OK {
			t.Fatalf("held %d times: %v", a.Holds(id), e)
		}
	}
	if e := a.Hold(id); e != api.ErrFull || a.Holds(id) != block.MaxHolds {
		t.Errorf("%v, %d times", e, a.Holds(id))
	}
	if e := a.Drop(id); e != api.OK || a.Holds(id) != block.MaxHolds-1 {
		t.Errorf("Drop: %v, %d times", e, a.Holds(id))
	}
	if e := a.Hold(id); e != api.OK || a.Holds(id) != block.MaxHolds {
		t.Errorf("Hold: %v, %d times", e, a.Holds(id))
	}
}

// P2: what is handed in is neither changed nor kept, what is answered is new memory with its spare room.
func TestNothingShared(t *testing.T) {
	a := newArena(t, 2)
	id := take(t, a)
	take(t, a)
	in := []byte("abcdef")
	a.Write(id, 0, in[:3])
	if string(in) != "abcdef" {
		t.Errorf("Write has changed what it was given: %q", in)
	}
	in[0] = 'X'
	one, _ := a.Read(id, 0, 3)
	two, _ := a.Read(id, 0, 3)
	for i := range one[:cap(one)] {
		one[:cap(one)][i] = 'Y'
	}
	if b, _ := a.Read(id, 0, 4); string(b) != "abc\x00" || string(two) != "abc" {
		t.Errorf("%q, %q", b, two)
	}
	a.Write(id, 0, []byte("z"))
	if string(two) != "abc" {
		t.Errorf("an answer has changed: %q", two)
	}
	other := newArena(t, 2)
	if other.Free() != 2 || a.Free() != 0 {
		t.Error("stores share blocks")
	}
}

// P3.1 to P3.3: many steps, held against blocks that are told apart by a map.
func TestManySteps(t *testing.T) {
	r := rand.New(rand.NewSource(1))
	const blocks = 6
	a := newArena(t, blocks)
	holds, content := map[int]int{}, map[int][]byte{}
	for range 50000 {
		id := r.Intn(blocks+2) - 1
		want := api.OK
		if holds[id] == 0 {
			want = api.ErrMissing
		}
		switch r.Intn(4) {
		case 0:
			got, e := a.Take()
			if (e == api.ErrFull) != (len(holds) == blocks) || e == api.OK && holds[got] > 0 {
				t.Fatalf("Take: %d, %v", got, e)
			}
			if e == api.OK {
				holds[got], content[got] = 1, make([]byte, block.Size)
			}
		case 1:
			if e := a.Hold(id); e != want {
				t.Fatalf("Hold: %v", e)
			}
			if want == api.OK {
				holds[id]++
			}
		case 2:
			if e := a.Drop(id); e != want {
				t.Fatalf("Drop: %v", e)
			}
			if holds[id] > 1 {
				holds[id]--
			} else {
				delete(holds, id)
			}
		case 3:
			at := r.Intn(block.Size)
			b := make([]byte, r.Intn(block.Size-at+1))
			r.Read(b)
			if e := a.Write(id, at, b); e != want {
				t.Fatalf("Write: %v", e)
			}
			if want == api.OK {
				copy(content[id][at:], b)
			}
		}
		if a.Free() != blocks-len(holds) || a.Len() != blocks {
			t.Fatalf("%d free, %d held", a.Free(), len(holds))
		}
		for id, n := range holds {
			if a.Holds(id) != n || readAll(t, a, id) != string(content[id]) {
				t.Fatalf("block %d: held %d times", id, a.Holds(id))
			}
		}
	}
}
