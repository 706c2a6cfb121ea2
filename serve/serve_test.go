package serve_test

import (
	"bytes"
	"encoding/hex"
	"errors"
	"fmt"
	"math"
	"reflect"
	"slices"
	"strconv"
	"strings"
	"testing"

	"pannier/api"
	"pannier/ask"
	"pannier/block"
	"pannier/fault"
	"pannier/head"
	"pannier/pax"
	"pannier/pull"
	"pannier/push"
	"pannier/quota"
	"pannier/serve"
	"pannier/tree"
	"pannier/usage"
)

const blockSize = 512

// wide are limits that nothing here comes up to.
var wide = api.Limits{Bytes: 1 << 40, Inodes: 1 << 30, Depth: 1 << 20, Length: 1 << 20, Num: 1 << 31, Den: 1}

// tight are limits with one number changed, or some.
func tight(change func(*api.Limits)) api.Limits {
	l := wide
	change(&l)
	return l
}

// put is an archive with an entry behind it, and its bytes.
func put(b []byte, typ byte, name, link, data string) []byte {
	return putHeader(b, head.Header{Name: name, Link: link, Type: typ, Mode: 0o644}, data)
}

func putHeader(b []byte, h head.Header, data string) []byte {
	h.Size = int64(len(data))
	x, e := head.Encode(h)
	if e != api.OK {
		panic("a header that can't be written: " + h.Name)
	}
	b = slices.Concat(b, x, []byte(data))
	return append(b, bytes.Repeat([]byte{'z'}, (blockSize-len(b)%blockSize)%blockSize)...)
}

// record is an archive with a record for the next entry behind it.
func record(b []byte, key, value string) []byte {
	data, e := pax.Encode(pax.Record{Key: key, Value: value})
	if e != api.OK {
		panic("a record that can't be written: " + key)
	}
	return put(b, 'x', "pax", "", string(data))
}

func whole(b []byte) []byte { return append(slices.Clone(b), make([]byte, 2*blockSize)...) }

// files is a whole archive of files: pairs of a path and its bytes.
func files(pairs ...string) []byte {
	var b []byte
	for i := 0; i+1 < len(pairs); i += 2 {
		b = put(b, '0', pairs[i], "", pairs[i+1])
	}
	return whole(b)
}

// text is n bytes by which a place among them is known.
func text(n int) string {
	var b strings.Builder
	for b.Len() < n {
		b.WriteString(strconv.Itoa(b.Len()) + ",")
	}
	return b.String()[:n]
}

// box is a server that is looked at behind each step.
type box struct {
	t       testing.TB
	s       *serve.Server
	tenants int
	blocks  int
}

func newBox(t testing.TB, blocks int, limits ...api.Limits) *box {
	t.Helper()
	s, e := serve.New(blocks, limits...)
	if e != api.OK || s == nil {
		t.Fatalf("New of %d blocks and %d limits: %v", blocks, len(limits), e)
	}
	x := &box{t: t, s: s, tenants: len(limits), blocks: blocks}
	x.sound()
	return x
}

// ask asks, and checks what holds of every answer, and behind every step.
func (x *box) ask(a ask.Ask) (serve.Reply, error) {
	x.t.Helper()
	r, err := x.s.Do(a)
	if err != nil && !reflect.DeepEqual(r, serve.Reply{}) {
		x.t.Errorf("%+v: beside %v: %+v", a, err, r)
	}
	place := a.Tenant
	if a.Kind == ask.Tick {
		place = 0
	}
	if _, ok := err.(fault.At); err != nil && (!ok || fault.Place(err) != place) {
		x.t.Errorf("%+v: %v at %d", a, err, fault.Place(err))
	}
	x.sound()
	return r, err
}

// sound is P21.6.
func (x *box) sound() {
	x.t.Helper()
	free, uploads, downloads := x.s.Free()
	published := map[int]bool{}
	for n := range x.tenants {
		q, has, staged := x.s.Ledger(n), usage.Of(x.s.Tree(n)), x.s.Staged(n)
		if q.Bytes != has.Bytes || q.Inodes != has.Inodes {
			x.t.Errorf("the tenant %d has %+v: %+v", n, has, q)
		}
		if q.HeldBytes < staged.Bytes || q.HeldInodes != staged.Inodes {
			x.t.Errorf("the tenant %d has laid out %+v: %+v", n, staged, q)
		}
		if uploads == 0 && (q.HeldBytes != 0 || q.HeldInodes != 0) {
			x.t.Errorf("the tenant %d holds for nothing: %+v", n, q)
		}
		all := has.Plus(staged)
		if all.Bytes = q.Bytes + q.HeldBytes; !all.Fits(q.Limits) {
			x.t.Errorf("the tenant %d is beyond its limits: %+v, %+v", n, all, q)
		}
		for _, c := range x.s.Tree(n).Contents() {
			for _, id := range c.Ids {
				if published[id] {
					x.t.Errorf("the block %d is published twice", id)
				}
				published[id] = true
			}
		}
	}
	taken := x.blocks - free
	if taken < len(published) || uploads+downloads == 0 && taken != len(published) {
		x.t.Errorf("%d blocks are taken, %d are published, %d uploads, %d downloads", taken, len(published), uploads, downloads)
	}
}

// want asks what is answered by that error, or by none.
func (x *box) want(want api.Errno, a ask.Ask) serve.Reply {
	x.t.Helper()
	r, err := x.ask(a)
	if fault.Code(err) != want || (err == nil) != (want == api.OK) {
		x.t.Errorf("%+v: %v, not %v", a, err, want)
	}
	return r
}

// refuse asks what is answered by that error, and changes nothing (rule 3).
func (x *box) refuse(want api.Errno, a ask.Ask) {
	x.t.Helper()
	was := x.state()
	x.want(want, a)
	if now := x.state(); !reflect.DeepEqual(now, was) {
		x.t.Errorf("%+v changed %+v to %+v", a, was, now)
	}
}

// state is all that a server tells but by what is asked.
func (x *box) state() []any {
	free, uploads, downloads := x.s.Free()
	all := []any{free, uploads, downloads}
	for n := range x.tenants {
		all = append(all, x.s.Tree(n), x.s.Ledger(n), x.s.Staged(n))
	}
	return all
}

func (x *box) open(n int) int {
	x.t.Helper()
	return x.want(api.OK, ask.Ask{Kind: ask.Open, Tenant: n}).Number
}

func (x *box) send(want api.Errno, n, number int, b []byte) {
	x.t.Helper()
	x.want(want, ask.Ask{Kind: ask.Send, Tenant: n, Number: number, Data: b})
}

func (x *box) commit(want api.Errno, n, number int) {
	x.t.Helper()
	x.want(want, ask.Ask{Kind: ask.Commit, Tenant: n, Number: number})
}

func (x *box) get(n int, path string) int {
	x.t.Helper()
	return x.want(api.OK, ask.Ask{Kind: ask.Get, Tenant: n, Path: path}).Number
}

func (x *box) pull(n, number, count int) ([]byte, bool) {
	x.t.Helper()
	r := x.want(api.OK, ask.Ask{Kind: ask.Pull, Tenant: n, Number: number, Count: count})
	return r.Data, r.Done
}

func (x *box) close(n, number int) {
	x.t.Helper()
	x.want(api.OK, ask.Ask{Kind: ask.Close, Tenant: n, Number: number})
}

func (x *box) tick(count int) {
	x.t.Helper()
	x.want(api.OK, ask.Ask{Kind: ask.Tick, Count: count})
}

// upload opens, sends and commits an archive.
func (x *box) upload(n int, b []byte) {
	x.t.Helper()
	number := x.open(n)
	x.send(api.OK, n, number, b)
	x.commit(api.OK, n, number)
}

// rest is what is left of a download.
func (x *box) rest(n, number int) []byte {
	x.t.Helper()
	var out []byte
	for range 1000 {
		b, done := x.pull(n, number, 5000)
		out = append(out, b...)
		if done {
			return out
		}
	}
	x.t.Error("a download without an end")
	return nil
}

// download is a whole download.
func (x *box) download(n int, path string) []byte {
	x.t.Helper()
	number := x.get(n, path)
	defer x.close(n, number)
	return x.rest(n, number)
}

// things is the names in an archive, in its order, with the bytes of files behind a `=` and of others what they point to behind a `>`.
func (x *box) things(b []byte) string {
	x.t.Helper()
	var out []string
	p := push.New()
	for _, ev := range p.Feed(b) {
		switch ev.Kind {
		case push.Begin:
			s := ev.Entry.Path
			switch ev.Entry.Kind {
			case api.File:
				s += "="
			case api.Dir:
				s += "/"
			default:
				s += ">" + ev.Entry.Link
			}
			out = append(out, s)
		case push.Data:
			out[len(out)-1] += string(ev.Data)
		}
	}
	if err := p.End(); err != nil {
		x.t.Errorf("a download that is no archive: %v", err)
	}
	return strings.Join(out, " ")
}

// has checks what a tenant has published, by a download.
func (x *box) has(n int, want string) {
	x.t.Helper()
	if got := x.things(x.download(n, ".")); got != want {
		x.t.Errorf("the tenant %d has %q, not %q", n, got, want)
	}
}

func (x *box) free(blocks, uploads, downloads int) {
	x.t.Helper()
	if b, u, d := x.s.Free(); b != blocks || u != uploads || d != downloads {
		x.t.Errorf("Free: %d %d %d, not %d %d %d", b, u, d, blocks, uploads, downloads)
	}
}

// The chapter's example.
func TestExample(t *testing.T) {
	x := newBox(t, 4, wide)
	x.upload(0, files("d/a", "hi"))
	if r := x.want(api.OK, ask.Ask{Kind: ask.List, Path: "d"}); !slices.Equal(r.Names, []string{"a"}) {
		t.Errorf("in d: %q", r.Names)
	}
	if b := x.download(0, "d"); len(b) != 2048 || x.things(b) != "a=hi" {
		t.Errorf("%d bytes: %s", len(b), x.things(b))
	}
}

// The document's limits.
func TestLimits(t *testing.T) {
	if serve.MaxTenants != 8 || serve.MaxOpen != 16 || serve.Idle != 8 {
		t.Errorf("limits: %d %d %d", serve.MaxTenants, serve.MaxOpen, serve.Idle)
	}
}

// P21.1: what New refuses.
func TestNewRefuses(t *testing.T) {
	wrong := tight(func(l *api.Limits) { l.Den = 0 })
	for _, c := range []struct {
		blocks int
		limits []api.Limits
	}{
		{4, nil},
		{4, []api.Limits{}},
		{4, slices.Repeat([]api.Limits{wide}, 9)},
		{4, slices.Repeat([]api.Limits{wide}, 100)},
		{-1, []api.Limits{wide}},
		{math.MinInt, []api.Limits{wide}},
		{block.MaxBlocks + 1, []api.Limits{wide}},
		{math.MaxInt, []api.Limits{wide}},
		{4, []api.Limits{wrong}},
		{4, []api.Limits{wrong, wide}},
		{4, []api.Limits{wide, wide, wrong}},
		{4, append(slices.Repeat([]api.Limits{wide}, 7), wrong)},
		{4, []api.Limits{{}}},
		{4, []api.Limits{tight(func(l *api.Limits) { l.Bytes = quota.MaxCount + 1 })}},
		{-1, []api.Limits{wrong}},
		{-1, nil},
	} {
		if s, e := serve.New(c.blocks, c.limits...); e != api.ErrRange || s != nil {
			t.Errorf("New of %d blocks and %d limits: %v", c.blocks, len(c.limits), e)
		}
	}
}

// P21.1: a server of tenants that have nothing.
func TestNew(t *testing.T) {
	for _, blocks := range []int{0, 1, block.MaxBlocks} {
		for n := 1; n <= serve.MaxTenants; n++ {
			var limits []api.Limits
			for i := range n {
				limits = append(limits, tight(func(l *api.Limits) { l.Bytes = int64(100 + i) }))
			}
			handed := append(slices.Clone(limits), wide)
			x := newBox(t, blocks, handed[:n]...)
			if !slices.Equal(handed, append(slices.Clone(limits), wide)) {
				t.Error("the limits were changed")
			}
			clear(handed)
			x.free(blocks, 0, 0)
			for i := range n {
				if q, want := x.s.Ledger(i), (quota.Ledger{Limits: limits[i]}); q != want {
					t.Errorf("the ledger: %+v, not %+v", q, want)
				}
				if y := x.s.Tree(i); len(y.Rows) != 0 || y.Next != 0 || x.s.Staged(i) != (usage.Usage{}) {
					t.Errorf("a new tenant: %+v", y)
				}
				x.has(i, "")
			}
			x.refuse(api.ErrRange, ask.Ask{Kind: ask.Open, Tenant: n})
		}
	}
}

// P21.1: Staged is all uploads of a tenant, put together; what is published isn't in it.
func TestStaged(t *testing.T) {
	x := newBox(t, 100, wide, wide)
	x.upload(0, files("p", "published"))
	first, second := x.open(0), x.open(0)
	x.send(api.OK, 0, first, files("d/e/f", "12345"))
	x.send(api.OK, 0, second, put(put(files("longer", "678")[:2*blockSize], '1', "l", "longer", ""), '0', "g", "", text(700))[:4*blockSize+100])
	if got, want := x.s.Staged(0), (usage.Usage{Bytes: 108, Inodes: 5, Depth: 3, Length: 6}); got != want {
		t.Errorf("laid out: %+v, not %+v", got, want)
	}
	if q := x.s.Ledger(0); q.HeldBytes != 708 || q.HeldInodes != 5 || q.Bytes != 9 || q.Inodes != 1 {
		t.Errorf("the ledger: %+v", q)
	}
	if x.s.Staged(1) != (usage.Usage{}) || x.s.Ledger(1) != (quota.Ledger{Limits: wide}) {
		t.Error("the other tenant has it, too")
	}
	x.commit(api.OK, 0, first)
	if got, want := x.s.Staged(0), (usage.Usage{Bytes: 103, Inodes: 2, Depth: 1, Length: 6}); got != want {
		t.Errorf("behind a commit: %+v, not %+v", got, want)
	}
}

// kinds are all that is asked by a tenant, and kinds that are none.
var kinds = []int{ask.Open, ask.Send, ask.Commit, ask.Abort, ask.List, ask.Stat, ask.Delete, ask.Get, ask.Pull, ask.Close, 0, -1, 12, 13, math.MaxInt, math.MinInt}

// P21.2: no such tenant: ErrRange at its number, ahead of all else.
func TestNoTenant(t *testing.T) {
	x := newBox(t, 4, wide, wide)
	x.upload(0, files("a", "1"))
	for _, kind := range kinds {
		for _, n := range []int{2, 3, 8, -1, math.MaxInt, math.MinInt} {
			for _, path := range []string{"a", "", "..", "nix"} {
				a := ask.Ask{Kind: kind, Tenant: n, Number: 1, Count: -1, Path: path, Data: []byte("x")}
				x.refuse(api.ErrRange, a)
				if _, err := x.s.Do(a); fault.Depth(err) != 1 {
					t.Errorf("%+v: %v", a, err)
				}
			}
		}
	}
}

// P21.2: ErrKind at the tenant's number.
func TestNoKind(t *testing.T) {
	x := newBox(t, 4, wide, wide)
	for _, kind := range []int{0, -1, 12, 13, 100, math.MaxInt, math.MinInt} {
		for n := range 2 {
			x.refuse(api.ErrKind, ask.Ask{Kind: kind, Tenant: n, Number: 1, Path: "..", Count: -1})
		}
	}
}

// P21.2: Tick's error is at 0, whatever the tenant, and it is no later by it.
func TestTickRefuses(t *testing.T) {
	x := newBox(t, 4, wide)
	number := x.open(0)
	for _, count := range []int{-1, -8, math.MinInt, ask.MaxNumber + 1, math.MaxInt} {
		for _, n := range []int{0, 1, -1, 5} {
			x.refuse(api.ErrRange, ask.Ask{Kind: ask.Tick, Tenant: n, Count: count})
			if _, err := x.s.Do(ask.Ask{Kind: ask.Tick, Tenant: n, Count: count}); fault.Place(err) != 0 || fault.Depth(err) != 1 {
				t.Errorf("Tick of %d: %v", count, err)
			}
		}
	}
	x.tick(7)
	x.send(api.OK, 0, number, nil)
	for _, n := range []int{1, -1, 9} { // a tenant has no meaning here
		x.want(api.OK, ask.Ask{Kind: ask.Tick, Tenant: n, Count: 1})
	}
	x.send(api.OK, 0, number, nil)
	x.tick(ask.MaxNumber)
	x.free(4, 0, 0)
}

// P21.2: lines are Decode's asks; its error is at -1.
func TestLine(t *testing.T) {
	x, y := newBox(t, 40, wide, wide), newBox(t, 40, wide, wide)
	archive := hex.EncodeToString(files("d/a", "hello", "b", "you"))
	for _, line := range []string{
		"open 0", "send 0 1 " + archive, "commit 0 1", "list 0 .", "list 0 ./d/", "stat 0 d/a", "stat 0", "stat 0 ..", "get 0 d", "pull 0 1 100", "pull 0 1 65537", "pull 0 1 65536",
		"open 1", "send 1 1 00", "abort 1 1", "abort 1 1", "tick 3", "delete 0 b", "delete 0 b", "list 0 .", "close 0 1", "close 0 1", "open 2", "commit 0 1", "get 1 nix", "tick 1048576",
		"", "nix", "open", "open x", "open 1048577", "open 1 1", "tick -1", "tick 1048577", "send 0 1 0", "pull 0 1", "list", " list 0 .", "list 0 " + strings.Repeat("a", ask.MaxLine),
	} {
		a, e := ask.Decode(line)
		want, wantErr := serve.Reply{}, fault.New(e, -1)
		if e == api.OK {
			want, wantErr = x.ask(a)
		}
		got, err := y.s.Line(line)
		if !reflect.DeepEqual(got, want) || !reflect.DeepEqual(err, wantErr) {
			t.Errorf("%.40q: %+v %v, not %+v %v", line, got, err, want, wantErr)
		}
		y.sound()
		if !reflect.DeepEqual(x.state(), y.state()) {
			t.Errorf("behind %.40q: %+v, not %+v", line, y.state(), x.state())
		}
	}
	for line, want := range map[string]api.Errno{"": api.ErrWord, "nix": api.ErrWord, "open 1048577": api.ErrRange, "list 0 " + strings.Repeat("a", ask.MaxLine): api.ErrLong} {
		if _, err := y.s.Line(line); fault.Code(err) != want || fault.Place(err) != -1 || fault.Depth(err) != 1 {
			t.Errorf("%.40q: %v at %d", line, err, fault.Place(err))
		}
	}
}

// bad is an error whose methods panic.
type bad struct{}

func (bad) Error() string   { panic("Error") }
func (bad) Unwrap() error   { panic("Unwrap") }
func (bad) Is(_ error) bool { panic("Is") }

// P21.2: Global: whether ErrFull is in it.
func TestGlobal(t *testing.T) {
	for _, err := range []error{
		api.ErrFull, fault.New(api.ErrFull, 3), fault.Wrap(fault.New(api.ErrFull, 3), 4), fmt.Errorf("no room: %w", fault.New(api.ErrFull, 1)),
		errors.Join(api.ErrLong, api.ErrFull), errors.Join(errors.New("x"), fault.New(api.ErrFull, 0)),
	} {
		if !serve.Global(err) {
			t.Errorf("%v isn't global", err)
		}
	}
	others := []error{nil, errors.New("errno 3"), fault.At{}, fault.New(api.ErrLong, 3), errors.Join(api.ErrMissing, api.ErrQuota), bad{}, fault.Wrap(bad{}, 1), api.OK}
	for e := range api.Errno(300) {
		if e != api.ErrFull {
			others = append(others, e, fault.New(e, 3))
		}
	}
	for i, err := range others {
		if serve.Global(err) {
			t.Errorf("the error %d is global", i)
		}
	}
}

// P21.3, P21.4: numbers count what a tenant has opened: uploads and downloads each for themselves, refused ones not.
func TestNumbers(t *testing.T) {
	x := newBox(t, 20, wide, wide)
	x.upload(0, files("a", "1"))
	want := func(n, upload, download int) {
		t.Helper()
		if u, d := x.open(n), x.get(n, "."); u != upload || d != download {
			t.Errorf("the upload %d and the download %d, not %d and %d", u, d, upload, download)
		}
	}
	want(0, 2, 1)
	want(1, 1, 1)
	x.refuse(api.ErrMissing, ask.Ask{Kind: ask.Get, Path: "nix"})
	x.refuse(api.ErrAbsolute, ask.Ask{Kind: ask.Get, Path: "/"})
	want(0, 3, 2)
	x.want(api.OK, ask.Ask{Kind: ask.Abort, Number: 3})
	x.close(0, 2)
	x.commit(api.ErrShort, 0, 2)
	want(0, 4, 3)
	x.tick(8)
	want(0, 5, 4)
	want(1, 2, 2)
	for range 14 {
		x.open(1)
		x.get(1, ".")
	}
	x.refuse(api.ErrFull, ask.Ask{Kind: ask.Open})
	x.refuse(api.ErrFull, ask.Ask{Kind: ask.Get, Path: "."})
	x.tick(8)
	want(0, 6, 5)
	want(1, 17, 17)
}

// P21.3: what isn't under way, or isn't any more, or is somebody else's.
func TestNoUpload(t *testing.T) {
	x := newBox(t, 20, wide, wide)
	x.upload(0, files("a", "1"))
	for range 4 {
		x.open(0)
	}
	x.get(1, ".")
	x.commit(api.ErrShort, 0, 2)
	x.want(api.OK, ask.Ask{Kind: ask.Abort, Number: 3})
	x.send(api.OK, 0, 4, make([]byte, 511))
	x.send(api.ErrSum, 0, 4, []byte("x"))
	x.send(api.OK, 0, 5, nil)
	for _, kind := range []int{ask.Send, ask.Commit, ask.Abort} {
		for _, number := range []int{0, 1, 2, 3, 4, 6, -1, -5, math.MaxInt, math.MinInt} {
			x.refuse(api.ErrMissing, ask.Ask{Kind: kind, Number: number, Data: files("b", "2")})
		}
		for number := range 7 {
			x.refuse(api.ErrMissing, ask.Ask{Kind: kind, Tenant: 1, Number: number})
		}
	}
	x.send(api.OK, 0, 5, files("b", "2"))
	x.commit(api.OK, 0, 5)
	x.has(0, "a=1 b=2")
}

// P21.3: what comes is laid out within the ledger, and nothing is published by that, at any byte.
func TestSend(t *testing.T) {
	x := newBox(t, 20, wide)
	x.upload(0, files("d/a", "old"))
	was := x.s.Tree(0)
	b := put(put(put(nil, '0', "d/a", "", text(130)), '1', "b", "d/a", ""), '5', "e", "", "")
	number := x.open(0)
	for i, piece := range slices.Collect(slices.Chunk(whole(b), 31)) {
		x.send(api.OK, 0, number, piece)
		came := min((i+1)*31, len(whole(b)))
		bytes, things := int64(0), 0
		if came >= blockSize {
			bytes, things = 130, 2
		}
		if came >= len(b) {
			things = 3
		}
		if q := x.s.Ledger(0); q.HeldBytes != bytes || q.HeldInodes != things || q.Bytes != 3 || q.Inodes != 2 {
			t.Fatalf("at %d: %+v", came, q)
		}
		x.free(19-(min(max(0, came-blockSize), 130)+63)/64, 1, 0)
		if !reflect.DeepEqual(x.s.Tree(0), was) {
			t.Fatalf("at %d: %+v", came, x.s.Tree(0))
		}
	}
	x.commit(api.OK, 0, number)
	x.has(0, "b="+text(130)+" d/ d/a>b e/")
	x.free(17, 0, 0)
	if q, want := x.s.Ledger(0), (quota.Ledger{Limits: wide, Bytes: 130, Inodes: 3}); q != want {
		t.Errorf("the ledger: %+v, not %+v", q, want)
	}
}

// P21.3: with Feed's error the upload is no more; the error is Feed's, within the tenant's place.
func TestSendRefused(t *testing.T) {
	l := api.Limits{Bytes: 1000, Inodes: 4, Depth: 2, Length: 5, Num: 1, Den: 1, Allow: 100}
	begun := put(nil, '0', "d/a", "", text(300))
	for _, c := range []struct {
		what  string
		b     []byte
		want  api.Errno
		place int
	}{
		{"a path above", put(begun, '0', "../a", "", ""), api.ErrDots, len(begun) + 512},
		{"a path from the root on", put(begun, '0', "/a", "", ""), api.ErrAbsolute, len(begun) + 512},
		{"a target above", put(begun, '2', "s", "../..", ""), api.ErrEscape, len(begun) + 512},
		{"a link to nothing", put(begun, '1', "l", "nix", ""), api.ErrMissing, len(begun) + 512},
		{"a file in a file", put(begun, '0', "d/a/b", "", ""), api.ErrQuota, len(begun) + 512},
		{"a file at a directory", put(begun, '0', "d", "", ""), api.ErrClash, len(begun) + 512},
		{"too deep", put(nil, '0', "a/b/c", "", ""), api.ErrQuota, 512},
		{"too long", put(nil, '0', "123456", "", ""), api.ErrQuota, 512},
		{"too many bytes", put(begun, '0', "b", "", text(701))[:len(begun)+512], api.ErrQuota, len(begun) + 512},
		{"too many things", put(put(begun, '5', "e", "", ""), '0', "f/g", "", ""), api.ErrQuota, len(begun) + 1024},
		{"no header", append(slices.Clone(begun), text(512)...), api.ErrSum, len(begun)},
		{"one blank block", append(whole(begun)[:len(begun)+512], begun[:512]...), api.ErrArchive, len(begun) + 512},
		{"a type that isn't taken", put(begun, '3', "c", "", ""), api.ErrKind, len(begun)},
	} {
		for _, n := range []int{1, 100, 512, len(c.b)} {
			x := newBox(t, 40, wide, l)
			x.upload(1, files("p", "12"))
			number, other := x.open(1), x.open(1)
			x.send(api.OK, 1, other, nil)
			was := x.state()
			var err error
			for _, piece := range slices.Collect(slices.Chunk(c.b, n)) {
				if err != nil {
					t.Errorf("%s, in pieces of %d: too soon: %v", c.what, n, err)
				}
				_, err = x.ask(ask.Ask{Kind: ask.Send, Tenant: 1, Number: number, Data: piece})
			}
			if want := fault.Wrap(fault.New(c.want, c.place), 1); !reflect.DeepEqual(err, want) {
				t.Errorf("%s, in pieces of %d: %+v, not %+v", c.what, n, err, want)
			}
			was[1] = 1
			if now := x.state(); !reflect.DeepEqual(now, was) {
				t.Errorf("%s, in pieces of %d: %+v, not %+v", c.what, n, now, was)
			}
			x.refuse(api.ErrMissing, ask.Ask{Kind: ask.Send, Tenant: 1, Number: number})
			x.refuse(api.ErrMissing, ask.Ask{Kind: ask.Commit, Tenant: 1, Number: number})
			x.send(api.OK, 1, other, files("q", "3"))
			x.commit(api.OK, 1, other)
			x.has(1, "p=12 q=3")
		}
	}
}

// P21.3: Layer 15's ratio, over the whole.
func TestRatio(t *testing.T) {
	x := newBox(t, 40, api.Limits{Bytes: 5000, Inodes: 10, Depth: 2, Length: 5, Num: 1, Den: 2, Allow: 10})
	number := x.open(0)
	x.send(api.OK, 0, number, put(nil, '0', "a", "", text(512)))
	x.send(api.ErrRatio, 0, number, put(nil, '0', "b", "", text(1024)))
	x.free(40, 0, 0)
}

// P21.3: Abort: nothing is left of it, wherever it stood.
func TestAbort(t *testing.T) {
	x := newBox(t, 40, wide)
	x.upload(0, files("a", "old"))
	b := files("a", text(200), "d/b", text(100))
	was := x.state()
	for n := 0; n <= len(b); n += 64 {
		number := x.open(0)
		x.send(api.OK, 0, number, b[:n])
		if r := x.want(api.OK, ask.Ask{Kind: ask.Abort, Number: number}); !reflect.DeepEqual(r, serve.Reply{}) {
			t.Errorf("Abort: %+v", r)
		}
		if now := x.state(); !reflect.DeepEqual(now, was) {
			t.Fatalf("at %d: %+v, not %+v", n, now, was)
		}
		x.refuse(api.ErrMissing, ask.Ask{Kind: ask.Abort, Number: number})
	}
	x.has(0, "a=old")
}

// P21.3: an upload that isn't whole is no more, and nothing of it is published: End's error within the tenant's place.
func TestCommitShort(t *testing.T) {
	x := newBox(t, 40, wide, wide)
	x.upload(1, files("a", "old"))
	b := files("a", text(200), "d/b", text(100))
	was := x.state()
	for n := 0; n < len(b); n += 64 {
		number := x.open(1)
		x.send(api.OK, 1, number, b[:n])
		_, err := x.ask(ask.Ask{Kind: ask.Commit, Tenant: 1, Number: number})
		if want := fault.Wrap(fault.New(api.ErrShort, n), 1); !reflect.DeepEqual(err, want) {
			t.Errorf("at %d: %+v, not %+v", n, err, want)
		}
		if now := x.state(); !reflect.DeepEqual(now, was) {
			t.Fatalf("at %d: %+v, not %+v", n, now, was)
		}
		x.refuse(api.ErrMissing, ask.Ask{Kind: ask.Commit, Tenant: 1, Number: number})
	}
	x.has(1, "a=old")
}

// P21.3: an upload that can't be laid over what is published is no more, and nothing of it is published.
func TestCommitClash(t *testing.T) {
	for _, b := range [][]byte{files("z", "1", "d", "2"), files("z", "1", "a/b", "2"), whole(put(put(nil, '0', "z", "", "1"), '2', "d", "a", "")), whole(put(nil, '5', "s", "", ""))} {
		x := newBox(t, 40, wide, wide)
		x.upload(1, whole(put(put(put(nil, '0', "a", "", text(100)), '0', "d/e", "", "1"), '2', "s", "d/e", "")))
		was := x.state()
		number := x.open(1)
		x.send(api.OK, 1, number, b)
		_, err := x.ask(ask.Ask{Kind: ask.Commit, Tenant: 1, Number: number})
		if want := fault.New(api.ErrClash, 1); !reflect.DeepEqual(err, want) {
			t.Errorf("%+v, not %+v", err, want)
		}
		if now := x.state(); !reflect.DeepEqual(now, was) {
			t.Errorf("%+v, not %+v", now, was)
		}
		x.refuse(api.ErrMissing, ask.Ask{Kind: ask.Commit, Tenant: 1, Number: number})
		x.has(1, "a="+text(100)+" d/ d/e=1 s>d/e")
	}
}

// P21.3: End's error is named ahead of layer 17's.
func TestCommitShortAheadOfClash(t *testing.T) {
	x := newBox(t, 4, wide)
	x.upload(0, files("d/a", "1"))
	number := x.open(0)
	x.send(api.OK, 0, number, put(nil, '0', "d", "", "2"))
	x.commit(api.ErrShort, 0, number)
}

// P21.3: what is committed lies over what is published: blocks of what is there no more are free, those of a file with a name left aren't.
func TestCommit(t *testing.T) {
	x := newBox(t, 40, wide)
	x.upload(0, whole(put(put(put(nil, '0', "d/a", "", text(100)), '1', "d/b", "d/a", ""), '0', "c", "", text(65))))
	x.has(0, "c="+text(65)+" d/ d/a="+text(100)+" d/b>d/a")
	x.free(36, 0, 0)
	x.upload(0, files("d/a", "new", "e/f", ""))
	x.has(0, "c="+text(65)+" d/ d/a=new d/b="+text(100)+" e/ e/f=")
	x.free(35, 0, 0)
	if q, want := x.s.Ledger(0), (quota.Ledger{Limits: wide, Bytes: 168, Inodes: 6}); q != want {
		t.Errorf("the ledger: %+v, not %+v", q, want)
	}
	x.upload(0, whole(put(put(nil, '2', "d/b", "../c", ""), '2', "c", "d/a", "")))
	x.has(0, "c>d/a d/ d/a=new d/b>../c e/ e/f=")
	x.free(39, 0, 0)
	x.upload(0, whole(nil))
	x.has(0, "c>d/a d/ d/a=new d/b>../c e/ e/f=")
	if q, want := x.s.Ledger(0), (quota.Ledger{Limits: wide, Bytes: 3, Inodes: 6}); q != want {
		t.Errorf("the ledger: %+v, not %+v", q, want)
	}
}

// P21.3: uploads are laid over what is published when they are committed, in that order, not when they were opened.
func TestCommitOrder(t *testing.T) {
	x := newBox(t, 40, wide)
	first, second, third := x.open(0), x.open(0), x.open(0)
	x.send(api.OK, 0, third, files("a", "third", "t", "3"))
	x.send(api.OK, 0, first, files("a", "first", "f", "1"))
	x.send(api.OK, 0, second, files("a/b", "second"))
	x.commit(api.OK, 0, third)
	x.has(0, "a=third t=3")
	x.commit(api.OK, 0, first)
	x.has(0, "a=first f=1 t=3")
	x.commit(api.ErrClash, 0, second)
	x.has(0, "a=first f=1 t=3")
}

// P21.3: what is committed puts no more in the ledger than was held, so that other uploads' holds stay.
func TestHeldByOthers(t *testing.T) {
	x := newBox(t, 40, api.Limits{Bytes: 100, Inodes: 3, Depth: 2, Length: 5, Num: 1, Den: 1})
	first, second := x.open(0), x.open(0)
	x.send(api.OK, 0, first, files("a", text(60)))
	x.send(api.OK, 0, second, files("b", text(40))[:512])
	third := x.open(0)
	x.send(api.ErrQuota, 0, third, files("c", "1"))
	x.commit(api.OK, 0, first)
	if q := x.s.Ledger(0); q.Bytes != 60 || q.HeldBytes != 40 || q.Inodes != 1 || q.HeldInodes != 1 {
		t.Errorf("the ledger: %+v", q)
	}
	third = x.open(0)
	x.send(api.ErrQuota, 0, third, files("a", "1"))
	x.send(api.OK, 0, second, files("b", text(40))[512:])
	x.commit(api.OK, 0, second)
	third = x.open(0)
	x.send(api.OK, 0, third, files("c", ""))
	x.commit(api.OK, 0, third)
	x.has(0, "a="+text(60)+" b="+text(40)+" c=")
	x.want(api.OK, ask.Ask{Kind: ask.Delete, Path: "a"})
	x.upload(0, files("d", text(60)))
}

// P21.4: layer 10's Clean's errors of a path.
func TestPathErrors(t *testing.T) {
	x := newBox(t, 4, wide, wide)
	x.upload(1, files("a", "1"))
	for _, kind := range []int{ask.List, ask.Stat, ask.Delete, ask.Get} {
		for path, want := range map[string]api.Errno{
			"": api.ErrEmpty, "..": api.ErrDots, "a/..": api.ErrDots, "/": api.ErrAbsolute, "/a": api.ErrAbsolute, "a\x00": api.ErrNul, "\xff": api.ErrText,
			strings.Repeat("a", 256): api.ErrLong, strings.Repeat("a/", 2001): api.ErrLong,
		} {
			a := ask.Ask{Kind: kind, Tenant: 1, Path: path}
			x.refuse(want, a)
			if _, err := x.s.Do(a); fault.Depth(err) != 1 {
				t.Errorf("%+v: %v", a, err)
			}
		}
		for _, path := range []string{"nix", "a/b", "nix/a"} {
			x.refuse(api.ErrMissing, ask.Ask{Kind: kind, Tenant: 1, Path: path})
			x.refuse(api.ErrMissing, ask.Ask{Kind: kind, Path: path})
		}
		x.refuse(api.ErrMissing, ask.Ask{Kind: kind, Path: "a"})
	}
}

// P21.4: List: last parts of paths, in order.
func TestList(t *testing.T) {
	x := newBox(t, 4, wide)
	names := func(path string, want ...string) {
		t.Helper()
		r := x.want(api.OK, ask.Ask{Kind: ask.List, Path: path})
		if !slices.Equal(r.Names, want) {
			t.Errorf("in %q: %q, not %q", path, r.Names, want)
		}
		r.Names = nil
		if !reflect.DeepEqual(r, serve.Reply{}) {
			t.Errorf("in %q: %+v", path, r)
		}
	}
	names(".")
	x.upload(0, whole(put(put(put(files("d/e/f", "1", "d-x", "2", "d/a", "3")[:6*512], '2', "s", "d", ""), '5', "empty", "", ""), '1', "d/l", "d-x", "")))
	names(".", "d", "d-x", "empty", "s")
	names("./", "d", "d-x", "empty", "s")
	names("d", "a", "e", "l")
	names("./d//.", "a", "e", "l")
	names("d/e/", "f")
	names("empty")
	for _, path := range []string{"s", "d-x", "d/l", "d/e/f/."} {
		x.refuse(api.ErrClash, ask.Ask{Kind: ask.List, Path: path})
	}
	x.refuse(api.ErrMissing, ask.Ask{Kind: ask.List, Path: "s/e"})
}

// P21.4: Stat: all fields of each kind; the root's.
func TestStat(t *testing.T) {
	x := newBox(t, 40, wide)
	stat := func(path string, want api.Entry) {
		t.Helper()
		if r := x.want(api.OK, ask.Ask{Kind: ask.Stat, Path: path}); !reflect.DeepEqual(r, serve.Reply{Entry: want}) {
			t.Errorf("at %q: %+v, not %+v", path, r, want)
		}
	}
	stat(".", api.Entry{Kind: api.Dir})
	h := head.Header{Mode: 0o4640, Uid: 11, Gid: 12, Mtime: 13, User: "u", Group: "g"}
	with := func(name string, typ byte, link string) head.Header {
		h := h
		h.Name, h.Type, h.Link = name, typ, link
		return h
	}
	b := putHeader(nil, with("d/f", '0', "no link"), text(700))
	b = putHeader(b, with("d/s", '2', "..//d/f"), "")
	b = putHeader(b, with("e", '5', "no link"), "")
	b = putHeader(b, with("z", '1', "d/f"), "")
	x.upload(0, whole(b))
	want := func(path string, kind int, link string, size int64) api.Entry {
		return api.Entry{Path: path, Kind: kind, Link: link, Size: size, Mode: 0o4640, Uid: 11, Gid: 12, Mtime: 13, User: "u", Group: "g"}
	}
	stat("d/f", want("d/f", api.File, "", 700))
	stat("./d//f/", want("d/f", api.File, "", 700))
	stat("z", want("z", api.File, "", 700))
	stat("d/s", want("d/s", api.Soft, "..//d/f", 0))
	stat("e", want("e", api.Dir, "", 0))
	stat("d", api.Entry{Path: "d", Kind: api.Dir, Mode: 0o755})
	stat("././", api.Entry{Kind: api.Dir})
	x.refuse(api.ErrMissing, ask.Ask{Kind: ask.Stat, Path: "d/s/x"})
}

// P21.4: Delete: all that lies there; blocks of what is there no more are free, the ledger has what is left, and what is held stays held.
func TestDelete(t *testing.T) {
	x := newBox(t, 40, wide)
	x.upload(0, whole(put(put(put(nil, '0', "d/a", "", text(100)), '1', "l", "d/a", ""), '0', "d/e/f", "", text(65))))
	number := x.open(0)
	x.send(api.OK, 0, number, files("h", text(10)))
	cut := func(path, want string, free int, bytes int64, things int) {
		t.Helper()
		if r := x.want(api.OK, ask.Ask{Kind: ask.Delete, Path: path}); !reflect.DeepEqual(r, serve.Reply{}) {
			t.Errorf("Delete: %+v", r)
		}
		x.has(0, want)
		x.free(free, 1, 0)
		if q, want := x.s.Ledger(0), (quota.Ledger{Limits: wide, Bytes: bytes, Inodes: things, HeldBytes: 10, HeldInodes: 1}); q != want {
			t.Errorf("the ledger: %+v, not %+v", q, want)
		}
	}
	x.free(35, 1, 0)
	cut("./d/a", "d/ d/e/ d/e/f="+text(65)+" l="+text(100), 35, 165, 4)
	cut("d/e/f", "d/ d/e/ l="+text(100), 37, 100, 3)
	cut("d//", "l="+text(100), 37, 100, 1)
	x.refuse(api.ErrMissing, ask.Ask{Kind: ask.Delete, Path: "d"})
	cut("l", "", 39, 0, 0)
	cut(".", "", 39, 0, 0)
	x.commit(api.OK, 0, number)
	x.has(0, "h="+text(10))
	x.want(api.OK, ask.Ask{Kind: ask.Delete, Path: "./."})
	x.has(0, "")
	x.free(40, 0, 0)
	if next := x.s.Tree(0).Next; next != 5 {
		t.Errorf("the next number: %d", next)
	}
}

// P21.4: a download is what stood there when it was opened, whatever is published and deleted since; its blocks are free once it is closed.
func TestDownloadStays(t *testing.T) {
	x := newBox(t, 40, wide)
	x.upload(0, files("d/a", text(100), "d/b", text(700), "e", "1"))
	want := x.download(0, "d")
	whole, begun, late := x.get(0, "d"), x.get(0, "d"), x.get(0, ".")
	b, _ := x.pull(0, begun, 700)
	x.upload(0, files("d/a", "changed", "d/c", "more"))
	x.want(api.OK, ask.Ask{Kind: ask.Delete, Path: "d/b"})
	x.free(40-2-11-1-2, 0, 3)
	if got := x.rest(0, whole); !bytes.Equal(got, want) {
		t.Errorf("%s", x.things(got))
	}
	if got := append(b, x.rest(0, begun)...); !bytes.Equal(got, want) {
		t.Errorf("%s", x.things(got))
	}
	x.want(api.OK, ask.Ask{Kind: ask.Delete, Path: "."})
	x.close(0, whole)
	x.free(40-2-11-1, 0, 2)
	x.close(0, begun)
	x.free(40-2-11-1, 0, 1)
	if got := x.things(x.rest(0, late)); got != "d/ d/a="+text(100)+" d/b="+text(700)+" e=1" {
		t.Errorf("%s", got)
	}
	x.close(0, late)
	x.free(40, 0, 0)
}

// P21.4: Pull: the next bytes, and whether they are the last ones, in whatever pieces; behind the end there are none.
func TestPull(t *testing.T) {
	x := newBox(t, 40, wide)
	x.upload(0, files("d/a", text(100)))
	want := x.download(0, ".")
	for _, n := range []int{1, 100, 511, 512, 513, len(want) - 1, len(want), len(want) + 1, pull.MaxPiece} {
		number := x.get(0, ".")
		var got []byte
		for len(got) < len(want) && !t.Failed() {
			b, done := x.pull(0, number, n)
			got = append(got, b...)
			if len(b) == 0 || done != (len(got) >= len(want)) || !done && len(b) != n {
				t.Fatalf("in pieces of %d: %d bytes, %d in all, Done %v", n, len(b), len(got), done)
			}
		}
		for range 2 {
			if b, done := x.pull(0, number, n); len(b) != 0 || !done {
				t.Errorf("behind the end: %d bytes, Done %v", len(b), done)
			}
		}
		if !bytes.Equal(got, want) {
			t.Errorf("in pieces of %d: %q", n, got)
		}
		x.close(0, number)
	}
}

// P21.4: Pull's errors: of a count; of an entry that can't be written. The download is under way all the same.
func TestPullRefused(t *testing.T) {
	x := newBox(t, 40, wide, wide)
	x.upload(1, whole(put(record(put(nil, '0', "a", "", "1"), "uname", "u\x00"), '0', "b", "", "2")))
	number := x.get(1, ".")
	for _, count := range []int{0, -1, math.MinInt, pull.MaxPiece + 1, math.MaxInt} {
		x.refuse(api.ErrRange, ask.Ask{Kind: ask.Pull, Tenant: 1, Number: number, Count: count})
	}
	if b, done := x.pull(1, number, 1000); len(b) != 1000 || done {
		t.Errorf("%d bytes, Done %v", len(b), done)
	}
	for range 2 {
		x.refuse(api.ErrEntry, ask.Ask{Kind: ask.Pull, Tenant: 1, Number: number, Count: 1000})
	}
	x.close(1, number)
}

// P21.4: Pull and Close of what isn't under way.
func TestNoDownload(t *testing.T) {
	x := newBox(t, 40, wide, wide)
	x.upload(0, files("a", "1"))
	for range 3 {
		x.get(0, ".")
	}
	for range 5 {
		x.open(0)
		x.open(1)
	}
	x.close(0, 1)
	x.pull(0, 3, 5)
	for _, kind := range []int{ask.Pull, ask.Close} {
		for _, number := range []int{0, 1, 4, 5, -1, math.MaxInt, math.MinInt} {
			for _, count := range []int{1, 0, -1} {
				x.refuse(api.ErrMissing, ask.Ask{Kind: kind, Number: number, Count: count})
			}
		}
		for number := range 5 {
			x.refuse(api.ErrMissing, ask.Ask{Kind: kind, Tenant: 1, Number: number, Count: 1})
		}
	}
	x.pull(0, 2, 5)
	x.close(0, 2)
	x.close(0, 3)
	x.refuse(api.ErrMissing, ask.Ask{Kind: ask.Close, Number: 3})
}

// P21.3, P21.4: MaxOpen uploads and MaxOpen downloads, each for themselves, of all tenants together.
func TestMaxOpen(t *testing.T) {
	x := newBox(t, 4, wide, wide, wide)
	for i := range serve.MaxOpen {
		x.open(i % 2)
	}
	for n := range 3 {
		x.refuse(api.ErrFull, ask.Ask{Kind: ask.Open, Tenant: n})
	}
	for i := range serve.MaxOpen {
		x.get(1+i%2, ".")
	}
	for n := range 3 {
		x.refuse(api.ErrFull, ask.Ask{Kind: ask.Get, Tenant: n, Path: "."})
		x.refuse(api.ErrFull, ask.Ask{Kind: ask.Get, Tenant: n, Path: "nix"})
		x.refuse(api.ErrDots, ask.Ask{Kind: ask.Get, Tenant: n, Path: ".."})
	}
	x.free(4, 16, 16)
	if _, err := x.s.Line("open 2"); !serve.Global(err) || fault.Place(err) != 2 || fault.Depth(err) != 1 {
		t.Errorf("Open: %v", err)
	}
	if _, err := x.s.Line("get 2 ."); !serve.Global(err) || fault.Place(err) != 2 || fault.Depth(err) != 1 {
		t.Errorf("Get: %v", err)
	}
	x.close(1, 3)
	x.refuse(api.ErrFull, ask.Ask{Kind: ask.Open, Tenant: 2})
	x.get(0, ".")
	x.commit(api.ErrShort, 0, 8)
	x.refuse(api.ErrFull, ask.Ask{Kind: ask.Get, Tenant: 2, Path: "."})
	if got := x.open(2); got != 1 {
		t.Errorf("the number %d", got)
	}
	x.free(4, 16, 16)
}

// P21.2, P21.3: no room for blocks is a global error; the upload is no more, and all of its blocks are free.
func TestNoRoom(t *testing.T) {
	x := newBox(t, 10, wide, wide)
	x.upload(0, files("a", text(128)))
	other := x.open(1)
	x.send(api.OK, 1, other, files("b", text(300)))
	number := x.open(0)
	_, err := x.ask(ask.Ask{Kind: ask.Send, Number: number, Data: files("c", text(100), "d", text(100))})
	if want := fault.Wrap(fault.New(api.ErrFull, 512+512+512), 0); !reflect.DeepEqual(err, want) || !serve.Global(err) {
		t.Errorf("%+v, not %+v", err, want)
	}
	x.free(3, 1, 0)
	x.commit(api.OK, 1, other)
	x.has(1, "b="+text(300))
	x.has(0, "a="+text(128))
	x.want(api.OK, ask.Ask{Kind: ask.Delete, Tenant: 1, Path: "b"})
	x.upload(0, files("c", text(100), "d", text(100)))
	x.free(4, 0, 0)
}

// P21.5: what nothing was asked of for Idle ticks is no more, of both kinds and of all tenants.
func TestIdle(t *testing.T) {
	for _, ticks := range [][]int{{8}, {9}, {1, 7}, {7, 1}, {7, 0, 1}, {7, 1000}, {1, 1, 1, 1, 1, 1, 1, 1}, {0, 8}, {ask.MaxNumber}, {4, 4}} {
		x := newBox(t, 40, wide, wide)
		x.upload(0, files("a", text(100)))
		x.tick(3)
		want := x.state()
		u, v, d := x.open(0), x.open(1), x.get(0, ".")
		x.send(api.OK, 0, u, files("b", text(100))[:600])
		x.send(api.OK, 1, v, files("c", text(200)))
		x.pull(0, d, 100)
		x.get(1, ".")
		for i, count := range ticks {
			x.free(40-2-2-4, 2, 2)
			if x.tick(count); i == len(ticks)-1 {
				break
			}
		}
		if now := x.state(); !reflect.DeepEqual(now, want) {
			t.Errorf("behind %v: %+v, not %+v", ticks, now, want)
		}
		x.refuse(api.ErrMissing, ask.Ask{Kind: ask.Send, Number: u})
		x.refuse(api.ErrMissing, ask.Ask{Kind: ask.Commit, Tenant: 1, Number: v})
		x.refuse(api.ErrMissing, ask.Ask{Kind: ask.Pull, Number: d, Count: 1})
		x.has(0, "a="+text(100))
	}
}

// P21.5: what something was asked of waits on, and nothing else does by that.
func TestAsked(t *testing.T) {
	x := newBox(t, 40, wide, wide)
	x.upload(0, files("a", text(100)))
	u, v, d, e := x.open(0), x.open(0), x.get(0, "."), x.get(0, ".")
	other, theirs := x.open(1), x.get(1, ".")
	for range 5 {
		x.tick(4)
		x.send(api.OK, 0, u, nil)
		x.refuse(api.ErrRange, ask.Ask{Kind: ask.Pull, Number: d, Count: 0})
		x.refuse(api.ErrMissing, ask.Ask{Kind: ask.Send, Number: 99})
		x.refuse(api.ErrMissing, ask.Ask{Kind: ask.Pull, Number: 99, Count: 1})
		x.want(api.OK, ask.Ask{Kind: ask.Stat, Path: "a"})
	}
	x.free(38, 1, 1)
	x.refuse(api.ErrMissing, ask.Ask{Kind: ask.Send, Number: v})
	x.refuse(api.ErrMissing, ask.Ask{Kind: ask.Pull, Number: e, Count: 1})
	x.refuse(api.ErrMissing, ask.Ask{Kind: ask.Send, Tenant: 1, Number: other})
	x.refuse(api.ErrMissing, ask.Ask{Kind: ask.Close, Tenant: 1, Number: theirs})
	x.tick(7)
	x.pull(0, d, 1)
	x.tick(7)
	x.free(38, 0, 1)
	x.tick(1)
	x.free(38, 0, 0)
}

// P21.5: one that was opened later waits from then on.
func TestIdleFromOpen(t *testing.T) {
	x := newBox(t, 4, wide)
	for range 12 {
		x.open(0)
		x.get(0, ".")
		x.tick(1)
	}
	x.free(4, 7, 7)
	for number := 1; number <= 12; number++ {
		want := api.OK
		if number <= 5 {
			want = api.ErrMissing
		}
		x.want(want, ask.Ask{Kind: ask.Abort, Number: number})
		x.want(want, ask.Ask{Kind: ask.Close, Number: number})
	}
}

// P21.7: one tenant's names and numbers are nothing to another one.
func TestTenants(t *testing.T) {
	x := newBox(t, 80, slices.Repeat([]api.Limits{wide}, 8)...)
	for n := range 8 {
		x.open(n)
	}
	for n := range 8 {
		x.send(api.OK, n, 1, files("a", fmt.Sprint(n), "d/"+fmt.Sprint(n), text(n)))
	}
	for n := range 8 {
		x.commit(api.OK, n, 1)
	}
	x.want(api.OK, ask.Ask{Kind: ask.Delete, Tenant: 3, Path: "."})
	x.want(api.OK, ask.Ask{Kind: ask.Delete, Tenant: 4, Path: "a"})
	for n := range 8 {
		switch n {
		case 3:
			x.has(n, "")
		case 4:
			x.has(n, "d/ d/4="+text(4))
		default:
			x.has(n, fmt.Sprintf("a=%d d/ d/%d=%s", n, n, text(n)))
		}
	}
}

// A download, uploaded once more, is the same.
func TestTakenOnceMore(t *testing.T) {
	x := newBox(t, 80, wide, wide)
	b := put(put(put(nil, '0', "d/a", "", text(100)), '1', "l", "d/a", ""), '2', "d/s", "../l", "")
	b = put(record(b, "path", "e/"+strings.Repeat("n", 200)), '0', "x", "", text(600))
	x.upload(0, whole(put(b, '5', "d/empty", "", "")))
	want := x.download(0, ".")
	x.upload(1, want)
	if got := x.download(1, "."); !bytes.Equal(got, want) {
		t.Errorf("%s, not %s", x.things(got), x.things(want))
	}
	x.upload(0, want)
	if got := x.download(0, "."); !bytes.Equal(got, want) {
		t.Errorf("%s, not %s", x.things(got), x.things(want))
	}
}

// P2, rule 4: what is handed in is neither changed nor kept, nor its spare room.
func TestHandedIn(t *testing.T) {
	x := newBox(t, 40, wide)
	number := x.open(0)
	for _, piece := range slices.Collect(slices.Chunk(files("d/a", text(600), "b", text(70)), 100)) {
		room := append(slices.Clone(piece), bytes.Repeat([]byte{'s'}, 600)...)
		was := slices.Clone(room)
		x.send(api.OK, 0, number, room[:len(piece)])
		if !bytes.Equal(room, was) {
			t.Fatal("what was handed in was changed")
		}
		clear(room)
	}
	x.commit(api.OK, 0, number)
	x.has(0, "b="+text(70)+" d/ d/a="+text(600))
}

// P2, rule 4: what is answered is new, its spare room too: who changes it changes nothing else.
func TestAnswered(t *testing.T) {
	x := newBox(t, 40, wide)
	x.upload(0, whole(put(put(nil, '0', "d/a", "", text(600)), '1', "d/b", "d/a", "")))
	want := x.download(0, ".")
	was := x.state()
	spoilt := x.s.Tree(0)
	for i := range spoilt.Rows {
		for k := range spoilt.Rows[i].Content.Ids {
			spoilt.Rows[i].Content.Ids[k] = -1
		}
		spoilt.Rows[i] = tree.Row{Path: "spoilt"}
	}
	_ = append(spoilt.Rows[:0], make([]tree.Row, cap(spoilt.Rows))...)
	names := x.want(api.OK, ask.Ask{Kind: ask.List, Path: "d"}).Names
	names = names[:cap(names)]
	for i := range names {
		names[i] = "spoilt"
	}
	number := x.get(0, ".")
	var got []byte
	for done := false; !done && !t.Failed(); {
		var b []byte
		b, done = x.pull(0, number, 300)
		got = append(got, b...)
		b = b[:cap(b)]
		for i := range b {
			b[i] = 'X'
		}
	}
	x.close(0, number)
	if now := x.state(); !bytes.Equal(got, want) || !reflect.DeepEqual(now, was) {
		t.Errorf("%+v, not %+v", now, was)
	}
	if r := x.want(api.OK, ask.Ask{Kind: ask.List, Path: "d"}); !slices.Equal(r.Names, []string{"a", "b"}) {
		t.Errorf("names: %q", r.Names)
	}
	first := x.s.Tree(0)
	same := x.s.Tree(0)
	x.upload(0, files("d/a", "new", "0", "1"))
	x.want(api.OK, ask.Ask{Kind: ask.Delete, Path: "d"})
	if !reflect.DeepEqual(first, same) {
		t.Error("a tree that was answered has changed")
	}
}

// P1: of no such tenant nothing is promised, but that the calls end.
func TestNothingPromised(t *testing.T) {
	x := newBox(t, 4, wide)
	for _, n := range []int{1, -1, 8, math.MaxInt, math.MinInt} {
		x.s.Tree(n)
		x.s.Ledger(n)
		x.s.Staged(n)
	}
}
