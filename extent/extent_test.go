package extent_test

import (
	"bytes"
	"math"
	"math/rand"
	"slices"
	"testing"

	"pannier/api"
	"pannier/block"
	"pannier/extent"
)

func newArena(t *testing.T, blocks int) *block.Arena {
	t.Helper()
	a, e := block.New(blocks)
	if e != api.OK {
		t.Fatalf("New(%d): %v", blocks, e)
	}
	return a
}

func add(t *testing.T, a *block.Arena, c extent.Content, b string) extent.Content {
	t.Helper()
	out, e := extent.Append(a, c, []byte(b))
	if e != api.OK {
		t.Fatalf("Append of %d bytes to %d: %v", len(b), c.Size, e)
	}
	return out
}

func share(t *testing.T, a *block.Arena, c extent.Content) extent.Content {
	t.Helper()
	out, e := extent.Share(a, c)
	if e != api.OK {
		t.Fatalf("Share: %v", e)
	}
	return out
}

func text(t *testing.T, a *block.Arena, c extent.Content) string {
	t.Helper()
	b, e := extent.Read(a, c, 0, c.Size)
	if e != api.OK {
		t.Fatalf("Read of %d: %v", c.Size, e)
	}
	return string(b)
}

// letters: n bytes, no two neighbours alike, nor two blocks that follow each other.
func letters(n int) string {
	b := make([]byte, n)
	for i := range b {
		b[i] = byte('a' + i*7%25 + i/64%2)
	}
	return string(b)
}

func same(c, d extent.Content) bool { return c.Size == d.Size && slices.Equal(c.Ids, d.Ids) }

// state is all that can be told of a store.
func state(a *block.Arena) []string {
	out := []string{}
	for id := range a.Len() {
		b, _ := a.Read(id, 0, block.Size)
		out = append(out, string(b)+string(rune(a.Holds(id))))
	}
	return out
}

// The limit of DOC.md, section Words.
func TestLimit(t *testing.T) {
	if extent.MaxSize != 1048576 {
		t.Error("the limit")
	}
}

// P4.1: a content that can't be isn't taken by Append and Read, whatever else is wrong with the call, and nothing has changed.
func TestContentsThatCannotBe(t *testing.T) {
	a := newArena(t, 4)
	c := add(t, a, extent.Content{}, letters(70))
	was := state(a)
	wrong := []extent.Content{
		{Size: -1}, {Size: math.MinInt}, {Size: math.MaxInt}, {Size: 1}, {Size: 64}, {Ids: []int{0}},
		{Ids: c.Ids, Size: 64}, {Ids: c.Ids, Size: 129}, {Ids: c.Ids, Size: -1}, {Ids: c.Ids},
		{Ids: c.Ids[:1], Size: 70}, {Ids: c.Ids[:1], Size: 65},
		{Ids: make([]int, block.MaxBlocks+1), Size: extent.MaxSize + 1},
		{Ids: make([]int, block.MaxBlocks), Size: extent.MaxSize + 1},
	}
	for _, w := range wrong {
		for _, n := range []int{0, 1, 200, extent.MaxSize + 1} {
			if got, e := extent.Append(a, w, make([]byte, n)); e != api.ErrRange || !same(got, w) {
				t.Errorf("Append to size %d in %d blocks: %v, size %d in %d", w.Size, len(w.Ids), e, got.Size, len(got.Ids))
			}
		}
		if b, e := extent.Read(a, w, 0, 0); b != nil || e != api.ErrRange {
			t.Errorf("Read of size %d in %d blocks: %v, %v", w.Size, len(w.Ids), b, e)
		}
	}
	if !slices.Equal(was, state(a)) {
		t.Error("the store has changed")
	}
}

// P4.2: bytes put behind each other are read whole, at every length around the edges of blocks, in no more blocks than they need.
func TestAppend(t *testing.T) {
	lengths := []int{0, 1, 2, 31, 62, 63, 64, 65, 127, 128, 129, 192, 200}
	for _, m := range lengths {
		for _, n := range lengths {
			all := letters(m + n)
			a := newArena(t, 8)
			c := add(t, a, extent.Content{}, all[:m])
			c = add(t, a, c, all[m:])
			if c.Size != m+n || len(c.Ids) != (m+n+63)/64 || a.Free() != 8-len(c.Ids) {
				t.Errorf("%d and %d: size %d in %d blocks, %d free", m, n, c.Size, len(c.Ids), a.Free())
			}
			if got := text(t, a, c); got != all {
				t.Errorf("%d and %d: %q", m, n, got)
			}
			for i, id := range c.Ids {
				b, _ := a.Read(id, 0, min(64, m+n-i*64))
				if a.Holds(id) != 1 || string(b) != all[i*64:min(m+n, i*64+64)] {
					t.Errorf("%d and %d: block %d: %q, held %d times", m, n, i, b, a.Holds(id))
				}
			}
		}
	}
}

// P4.2: what is put behind a content that is shared isn't seen by the others; a last block that isn't full is copied, a full one isn't.
func TestAppendToWhatIsShared(t *testing.T) {
	for _, m := range []int{0, 1, 3, 63, 64, 65, 128, 130} {
		for _, n := range []int{1, 2, 61, 63, 64, 65, 130} {
			all := letters(m + n)
			a := newArena(t, 12)
			c := add(t, a, extent.Content{}, all[:m])
			d := share(t, a, c)
			was := a.Free()
			f := add(t, a, c, all[m:])
			takes := (m+n+63)/64 - (m+63)/64
			if m%64 > 0 {
				takes++
			}
			if a.Free() != was-takes || text(t, a, f) != all || text(t, a, d) != all[:m] {
				t.Errorf("%d and %d: %d free of %d; %q and %q", m, n, a.Free(), was, text(t, a, f), text(t, a, d))
			}
			for i, id := range d.Ids {
				wants := 2
				if i == m/64 {
					wants = 1
				}
				if a.Holds(id) != wants || (f.Ids[i] == id) != (wants == 2) {
					t.Errorf("%d and %d: block %d is held %d times", m, n, i, a.Holds(id))
				}
			}
			if e := extent.Drop(a, d); e != api.OK || text(t, a, f) != all {
				t.Errorf("%d and %d: Drop: %v", m, n, e)
			}
			if e := extent.Drop(a, f); e != api.OK || a.Free() != 12 {
				t.Errorf("%d and %d: Drop: %v, %d free", m, n, e, a.Free())
			}
		}
	}
}

// P4.2: the block that others hold, too, is copied even for no bytes, as the document makes no exception there.
func TestAppendOfNothing(t *testing.T) {
	a := newArena(t, 3)
	c := add(t, a, extent.Content{}, "abc")
	c = add(t, a, c, "")
	if a.Free() != 2 || text(t, a, c) != "abc" {
		t.Error("to what isn't shared")
	}
	d := share(t, a, c)
	c = add(t, a, c, "")
	if a.Free() != 1 || text(t, a, c) != "abc" || text(t, a, d) != "abc" || c.Ids[0] == d.Ids[0] || a.Holds(d.Ids[0]) != 1 {
		t.Error("to what is shared")
	}
	d = share(t, a, c)
	a.Take()
	if got, e := extent.Append(a, c, nil); e != api.ErrFull || !same(got, c) {
		t.Errorf("in a full store: %v", e)
	}
	if d = add(t, a, extent.Content{}, ""); d.Size != 0 || len(d.Ids) != 0 {
		t.Error("to no bytes")
	}
}

// P4.3: the document's example.
func TestExample(t *testing.T) {
	a := newArena(t, 4)
	c := add(t, a, extent.Content{}, "abc")
	d := share(t, a, c)
	c = add(t, a, c, "de")
	if text(t, a, c) != "abcde" || text(t, a, d) != "abc" || a.Free() != 2 {
		t.Errorf("%q, %q, %d free", text(t, a, c), text(t, a, d), a.Free())
	}
}

// P4.2: too few blocks: c is answered, and nothing has changed.
func TestAppendFull(t *testing.T) {
	a := newArena(t, 4)
	c := add(t, a, extent.Content{}, letters(70))
	try := func(c extent.Content, n int, want api.Errno) {
		t.Helper()
		was := state(a)
		got, e := extent.Append(a, c, make([]byte, n))
		if e != want {
			t.Errorf("of %d: %v", n, e)
		}
		if e != api.OK && (!same(got, c) || !slices.Equal(was, state(a))) {
			t.Errorf("of %d: something has changed", n)
		}
	}
	try(c, 187, api.ErrFull)
	try(c, 1000, api.ErrFull)
	d := share(t, a, c)
	try(c, 123, api.ErrFull)
	try(d, 123, api.ErrFull)
	extent.Drop(a, d)
	try(c, 186, api.OK)
	a = newArena(t, 4)
	c = add(t, a, extent.Content{}, letters(70))
	share(t, a, c)
	try(c, 122, api.OK)
	a = newArena(t, 0)
	try(extent.Content{}, 1, api.ErrFull)
	try(extent.Content{}, 0, api.OK)
}

// P4.2: MaxSize bytes are taken, one more isn't; that there are too many is told ahead of that too few blocks are free.
func TestAppendLong(t *testing.T) {
	all := letters(extent.MaxSize + 1)
	a := newArena(t, block.MaxBlocks)
	c := add(t, a, extent.Content{}, all[:extent.MaxSize-1])
	if got, e := extent.Append(a, c, []byte(all[extent.MaxSize-1:])); e != api.ErrLong || !same(got, c) || a.Free() != 0 {
		t.Errorf("one too many: %v", e)
	}
	c = add(t, a, c, all[extent.MaxSize-1:extent.MaxSize])
	if c.Size != extent.MaxSize || text(t, a, c) != all[:extent.MaxSize] {
		t.Error("MaxSize bytes")
	}
	if got, e := extent.Append(a, c, []byte("a")); e != api.ErrLong || !same(got, c) {
		t.Errorf("one more: %v", e)
	}
	c = add(t, a, c, "")
	if b, e := extent.Read(a, c, extent.MaxSize-1, 1); e != api.OK || b[0] != all[extent.MaxSize-1] {
		t.Errorf("the last byte: %v, %v", b, e)
	}
	if e := extent.Drop(a, c); e != api.OK || a.Free() != block.MaxBlocks {
		t.Errorf("Drop: %v", e)
	}
	if got, e := extent.Append(newArena(t, 0), extent.Content{}, []byte(all)); e != api.ErrLong || got.Size != 0 {
		t.Errorf("in a store without blocks: %v", e)
	}
}

// P4.2: every place and length of Read.
func TestRead(t *testing.T) {
	const size = 150
	all := letters(size)
	a := newArena(t, 3)
	c := add(t, a, extent.Content{}, all)
	for at := -2; at <= size+66; at++ {
		for n := -2; n <= size+66; n++ {
			b, e := extent.Read(a, c, at, n)
			if at < 0 || n < 0 || at+n > size {
				if b != nil || e != api.ErrRange {
					t.Fatalf("at %d of %d: %v, %v", at, n, b, e)
				}
			} else if e != api.OK || string(b) != all[at:at+n] {
				t.Fatalf("at %d of %d: %q, %v", at, n, b, e)
			}
		}
	}
	for _, wild := range []int{math.MinInt, math.MaxInt} {
		for _, n := range []int{math.MinInt, 0, 1, math.MaxInt} {
			if _, e := extent.Read(a, c, wild, n); e != api.ErrRange {
				t.Errorf("at %d of %d: %v", wild, n, e)
			}
			if _, e := extent.Read(a, c, 1, wild); e != api.ErrRange {
				t.Errorf("of %d: %v", wild, e)
			}
		}
	}
	if b, e := extent.Read(a, extent.Content{}, 0, 0); len(b) != 0 || e != api.OK {
		t.Errorf("of the zero Content: %v, %v", b, e)
	}
	if b, e := extent.Read(a, extent.Content{}, 0, 1); b != nil || e != api.ErrRange {
		t.Errorf("of the zero Content: %v, %v", b, e)
	}
}

// P4.2: only the blocks of the bytes that are asked for must be held; a wrong range is told ahead of that.
func TestReadMissing(t *testing.T) {
	all := letters(190)
	a := newArena(t, 3)
	c := add(t, a, extent.Content{}, all)
	a.Drop(c.Ids[1])
	for _, x := range [][2]int{{0, 64}, {128, 62}, {64, 0}, {100, 0}, {190, 0}} {
		if b, e := extent.Read(a, c, x[0], x[1]); e != api.OK || string(b) != all[x[0]:x[0]+x[1]] {
			t.Errorf("at %d of %d: %q, %v", x[0], x[1], b, e)
		}
	}
	for _, x := range [][2]int{{0, 65}, {127, 1}, {64, 1}, {127, 63}, {0, 190}} {
		if b, e := extent.Read(a, c, x[0], x[1]); b != nil || e != api.ErrMissing {
			t.Errorf("at %d of %d: %q, %v", x[0], x[1], b, e)
		}
	}
	if _, e := extent.Read(a, c, 0, 191); e != api.ErrRange {
		t.Errorf("too many: %v", e)
	}
}

// P4.3: each block is held once more, and no other.
func TestShare(t *testing.T) {
	for _, n := range []int{0, 1, 64, 65, 200} {
		a := newArena(t, 8)
		other := add(t, a, extent.Content{}, "other")
		c := add(t, a, extent.Content{}, letters(n))
		was := a.Free()
		for i := range 3 {
			d := share(t, a, c)
			if !same(c, d) || a.Free() != was || a.Holds(other.Ids[0]) != 1 {
				t.Errorf("of %d bytes: %v, %d free", n, d, a.Free())
			}
			for _, id := range c.Ids {
				if a.Holds(id) != i+2 {
					t.Errorf("of %d bytes: held %d times", n, a.Holds(id))
				}
			}
		}
	}
}

// P4.3: a block that isn't held: ErrMissing of Share and Drop, wherever it is, and nothing has changed.
func TestMissing(t *testing.T) {
	for _, i := range []int{0, 1, 2} {
		a := newArena(t, 5)
		c := add(t, a, extent.Content{}, letters(150))
		a.Drop(c.Ids[i])
		was := state(a)
		if d, e := extent.Share(a, c); e != api.ErrMissing || d.Ids != nil || d.Size != 0 {
			t.Errorf("Share, block %d: %v, %v", i, d, e)
		}
		if e := extent.Drop(a, c); e != api.ErrMissing {
			t.Errorf("Drop, block %d: %v", i, e)
		}
		if !slices.Equal(was, state(a)) || a.Free() != 3 {
			t.Errorf("block %d: something has changed", i)
		}
	}
}

// P4.3: a block that can't be held once more: ErrFull of Share, and nothing has changed.
func TestShareFull(t *testing.T) {
	a := newArena(t, 3)
	c := add(t, a, extent.Content{}, letters(150))
	for a.Holds(c.Ids[1]) < block.MaxHolds {
		a.Hold(c.Ids[1])
	}
	if d, e := extent.Share(a, c); e != api.ErrFull || d.Ids != nil || d.Size != 0 {
		t.Errorf("%v, %v", d, e)
	}
	if a.Holds(c.Ids[0]) != 1 || a.Holds(c.Ids[1]) != block.MaxHolds || a.Holds(c.Ids[2]) != 1 {
		t.Error("something has changed")
	}
	a.Drop(c.Ids[1])
	if d, e := extent.Share(a, c); e != api.OK || !same(c, d) {
		t.Errorf("%v, %v", d, e)
	}
}

// P4.3: a content that is dropped has no more blocks; those that others hold stay.
func TestDrop(t *testing.T) {
	a := newArena(t, 8)
	c := add(t, a, extent.Content{}, letters(150))
	d := share(t, a, c)
	if e := extent.Drop(a, c); e != api.OK || a.Free() != 5 || text(t, a, d) != letters(150) {
		t.Errorf("the one: %v, %d free", e, a.Free())
	}
	if e := extent.Drop(a, d); e != api.OK || a.Free() != 8 {
		t.Errorf("the other: %v, %d free", e, a.Free())
	}
	if e := extent.Drop(a, d); e != api.ErrMissing || a.Free() != 8 {
		t.Errorf("once more: %v", e)
	}
	if e := extent.Drop(a, extent.Content{}); e != api.OK {
		t.Errorf("no bytes: %v", e)
	}
}

// Rule 3: nothing is promised of a content that was dropped; bytes aren't lost in its last block, at least.
func TestAppendToWhatIsGone(t *testing.T) {
	a := newArena(t, 3)
	c := add(t, a, extent.Content{}, "abc")
	extent.Drop(a, c)
	if got, e := extent.Append(a, c, []byte("d")); e != api.ErrMissing || !same(got, c) || a.Free() != 3 {
		t.Errorf("%v, %v, %d free", got, e, a.Free())
	}
}

// P1: contents that nobody answered don't make a call panic.
func TestWildContents(t *testing.T) {
	r := rand.New(rand.NewSource(2))
	for range 20000 {
		a := newArena(t, 3)
		add(t, a, extent.Content{}, letters(r.Intn(130)))
		c := extent.Content{Size: r.Intn(200) - 3}
		for range r.Intn(5) {
			c.Ids = append(c.Ids, r.Intn(5)-1)
		}
		ids := slices.Clone(c.Ids)
		extent.Read(a, c, r.Intn(200)-3, r.Intn(200)-3)
		extent.Share(a, c)
		extent.Append(a, c, make([]byte, r.Intn(100)))
		extent.Drop(a, c)
		if !slices.Equal(ids, c.Ids) {
			t.Fatal("what was handed in has changed")
		}
	}
}

// P2: what is handed in is neither changed nor kept, and no answer shares memory with it, its spare room too.
func TestNothingShared(t *testing.T) {
	spoil := func(c extent.Content) {
		all := c.Ids[:cap(c.Ids)]
		for i := range all {
			all[i] = -7
		}
	}
	a := newArena(t, 12)
	first := add(t, a, extent.Content{}, letters(70))
	ids := append(slices.Clone(first.Ids), 91, 92, 93, 94)
	c := extent.Content{Ids: ids[:2], Size: 70}
	in := []byte(letters(300)[70:])
	d, e := extent.Append(a, c, in[:200])
	if e != api.OK || !slices.Equal(ids[:2], first.Ids) || !slices.Equal(ids[2:], []int{91, 92, 93, 94}) || string(in) != letters(300)[70:] {
		t.Fatal("Append has changed what it was given")
	}
	clear(in)
	spoil(extent.Content{Ids: ids})
	spoil(first)
	if text(t, a, d) != letters(270) {
		t.Fatal("Append has kept what it was given")
	}
	f := share(t, a, d)
	keep := share(t, a, d)
	spoil(f)
	if text(t, a, d) != letters(270) || text(t, a, keep) != letters(270) {
		t.Fatal("contents that were shared share their lists")
	}
	kept, e := extent.Append(a, d, make([]byte, extent.MaxSize))
	if e != api.ErrLong {
		t.Fatal(e)
	}
	spoil(kept)
	if text(t, a, d) != letters(270) {
		t.Fatal("a refused Append answers the list that it was given")
	}
	one, _ := extent.Read(a, d, 0, 70)
	two, _ := extent.Read(a, d, 0, 70)
	clear(one[:cap(one)])
	if string(two) != letters(70) || text(t, a, d) != letters(270) {
		t.Fatal("Read answers memory that isn't new")
	}
}

// P4.2, P4.3: many steps, held against the bytes that each content must have and the blocks that all need.
func TestManySteps(t *testing.T) {
	r := rand.New(rand.NewSource(3))
	const blocks = 16
	a := newArena(t, blocks)
	var cs []extent.Content
	var want [][]byte
	for range 30000 {
		i := r.Intn(len(cs) + 1)
		switch {
		case i == len(cs):
			if len(cs) < 8 {
				cs, want = append(cs, extent.Content{}), append(want, nil)
			}
		case r.Intn(3) > 0:
			b := make([]byte, r.Intn(90))
			r.Read(b)
			takes := (len(want[i])+len(b)+63)/64 - len(cs[i].Ids)
			if len(want[i])%64 > 0 && a.Holds(cs[i].Ids[len(cs[i].Ids)-1]) > 1 {
				takes++
			}
			was := a.Free()
			got, e := extent.Append(a, cs[i], b)
			if takes > was {
				if e != api.ErrFull || !same(got, cs[i]) || a.Free() != was {
					t.Fatalf("Append: %v", e)
				}
				break
			}
			if e != api.OK || a.Free() != was-takes {
				t.Fatalf("Append: %v, %d free of %d", e, a.Free(), was)
			}
			cs[i], want[i] = got, append(want[i], b...)
		case r.Intn(2) > 0 && len(cs) < 8:
			cs, want = append(cs, share(t, a, cs[i])), append(want, slices.Clone(want[i]))
		default:
			if e := extent.Drop(a, cs[i]); e != api.OK {
				t.Fatalf("Drop: %v", e)
			}
			cs, want = slices.Delete(cs, i, i+1), slices.Delete(want, i, i+1)
		}
		holds := make([]int, blocks)
		for k, c := range cs {
			if !bytes.Equal([]byte(text(t, a, c)), want[k]) {
				t.Fatalf("content %d isn't what it should be", k)
			}
			for _, id := range c.Ids {
				holds[id]++
			}
		}
		for id, n := range holds {
			if a.Holds(id) != n {
				t.Fatalf("block %d is held %d times, not %d", id, a.Holds(id), n)
			}
		}
	}
}
