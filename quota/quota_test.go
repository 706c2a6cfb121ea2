package quota_test

import (
	"math"
	"math/big"
	"math/rand"
	"testing"

	"pannier/api"
	"pannier/quota"
)

// limits that are right, each number another one.
var limits = api.Limits{Bytes: 100, Inodes: 10, Depth: 3, Length: 30, Num: 3, Den: 2, Allow: 7}

func newLedger(t testing.TB, l api.Limits) quota.Ledger {
	t.Helper()
	q, e := quota.New(l)
	if e != api.OK {
		t.Fatalf("New(%+v): %v", l, e)
	}
	return q
}

func hold(t testing.TB, q quota.Ledger, bytes int64, inodes int) quota.Ledger {
	t.Helper()
	out, e := q.Hold(bytes, inodes)
	if e != api.OK {
		t.Fatalf("%+v.Hold(%d, %d): %v", q, bytes, inodes, e)
	}
	return out
}

func settle(t testing.TB, q quota.Ledger, bytes int64, inodes int, nowBytes int64, nowInodes int) quota.Ledger {
	t.Helper()
	out, e := q.Settle(bytes, inodes, nowBytes, nowInodes)
	if e != api.OK {
		t.Fatalf("%+v.Settle(%d, %d, %d, %d): %v", q, bytes, inodes, nowBytes, nowInodes, e)
	}
	return out
}

// holder is a ledger that has 20 bytes and 2 things, and holds 30 and 3.
func holder(t testing.TB) quota.Ledger {
	t.Helper()
	q := hold(t, settle(t, newLedger(t, limits), 0, 0, 20, 2), 30, 3)
	if want := (quota.Ledger{Limits: limits, Bytes: 20, HeldBytes: 30, Inodes: 2, HeldInodes: 3}); q != want {
		t.Fatalf("%+v, not %+v", q, want)
	}
	return q
}

// The document's example: of 100 bytes 60 are held: 41 more aren't; they are settled to 50.
func TestExample(t *testing.T) {
	q := hold(t, newLedger(t, limits), 60, 0)
	if _, e := q.Hold(41, 0); e != api.ErrQuota {
		t.Errorf("41 more: %v", e)
	}
	q = settle(t, q, 60, 0, 50, 0)
	if want := (quota.Ledger{Limits: limits, Bytes: 50}); q != want {
		t.Errorf("settled: %+v, not %+v", q, want)
	}
}

// changed is limits with one number changed.
func changed(l api.Limits, change func(*api.Limits)) api.Limits {
	change(&l)
	return l
}

// checkCases: each of the limits' numbers at its edges.
func checkCases() map[api.Limits]api.Errno {
	out := map[api.Limits]api.Errno{limits: api.OK, {}: api.ErrRange, {Den: 1}: api.OK}
	try := func(least, most int64, change func(*api.Limits, int64)) {
		for _, n := range []int64{math.MinInt64, -1 << 31, -1, 0, 1, 2, 1<<31 - 1, 1 << 31, 1<<31 + 1, 1 << 32, 1<<62 - 1, 1 << 62, math.MaxInt64} {
			want := api.OK
			if n < least || n > most {
				want = api.ErrRange
			}
			out[changed(limits, func(l *api.Limits) { change(l, n) })] = want
		}
	}
	try(0, 4611686018427387903, func(l *api.Limits, n int64) { l.Bytes = n })
	try(0, 4611686018427387903, func(l *api.Limits, n int64) { l.Inodes = int(n) })
	try(0, 4611686018427387903, func(l *api.Limits, n int64) { l.Allow = n })
	try(0, math.MaxInt64, func(l *api.Limits, n int64) { l.Depth = int(n) })
	try(0, math.MaxInt64, func(l *api.Limits, n int64) { l.Length = int(n) })
	try(0, 2147483648, func(l *api.Limits, n int64) { l.Num = n })
	try(1, 2147483648, func(l *api.Limits, n int64) { l.Den = n })
	return out
}

// P15.1: Check, and New, which answers its error and no ledger, or else a ledger that has nothing.
func TestCheckAndNew(t *testing.T) {
	if quota.MaxCount != 4611686018427387903 {
		t.Error("MaxCount")
	}
	for l, want := range checkCases() {
		if e := quota.Check(l); e != want {
			t.Errorf("Check(%+v): %v, not %v", l, e, want)
		}
		ledger := quota.Ledger{}
		if want == api.OK {
			ledger.Limits = l
		}
		if q, e := quota.New(l); q != ledger || e != want {
			t.Errorf("New(%+v): %+v, %v", l, q, e)
		}
	}
}

// P15.2: Hold, at its edges; beside an error is no ledger.
func TestHold(t *testing.T) {
	q := holder(t)
	for _, x := range []struct {
		bytes  int64
		inodes int
		want   api.Errno
	}{
		{0, 0, api.OK}, {1, 0, api.OK}, {0, 1, api.OK}, {50, 5, api.OK}, {50, 0, api.OK}, {0, 5, api.OK},
		{51, 0, api.ErrQuota}, {0, 6, api.ErrQuota}, {51, 6, api.ErrQuota}, {51, 5, api.ErrQuota}, {50, 6, api.ErrQuota},
		{math.MaxInt64, 0, api.ErrQuota}, {0, math.MaxInt, api.ErrQuota}, {math.MaxInt64, math.MaxInt, api.ErrQuota},
		{math.MaxInt64 - 49, 0, api.ErrQuota}, {math.MaxInt64 - 30, 0, api.ErrQuota}, {math.MaxInt64 - 29, 0, api.ErrQuota},
		{-1, 0, api.ErrRange}, {0, -1, api.ErrRange}, {-1, -1, api.ErrRange}, {math.MinInt64, 0, api.ErrRange}, {0, math.MinInt, api.ErrRange},
		{-1, 6, api.ErrRange}, {51, -1, api.ErrRange},
	} {
		want := quota.Ledger{}
		if x.want == api.OK {
			want = quota.Ledger{Limits: limits, Bytes: 20, HeldBytes: 30 + x.bytes, Inodes: 2, HeldInodes: 3 + x.inodes}
		}
		if got, e := q.Hold(x.bytes, x.inodes); got != want || e != x.want {
			t.Errorf("Hold(%d, %d): %+v, %v; not %+v, %v", x.bytes, x.inodes, got, e, want, x.want)
		}
	}
}

// P15.2: all the limits may be held, and then nothing more.
func TestHoldAll(t *testing.T) {
	q := hold(t, hold(t, newLedger(t, limits), 99, 9), 1, 1)
	if _, e := q.Hold(0, 0); e != api.OK {
		t.Errorf("nothing more: %v", e)
	}
	for _, x := range [][2]int{{1, 0}, {0, 1}} {
		if _, e := q.Hold(int64(x[0]), x[1]); e != api.ErrQuota {
			t.Errorf("Hold%v: %v", x, e)
		}
	}
	none := newLedger(t, api.Limits{Den: 1})
	if _, e := none.Hold(1, 0); e != api.ErrQuota {
		t.Errorf("a byte of none: %v", e)
	}
	if _, e := none.Hold(0, 1); e != api.ErrQuota {
		t.Errorf("a thing of none: %v", e)
	}
}

// P15.2: Free, at its edges; what the tenant has isn't freed.
func TestFree(t *testing.T) {
	q := holder(t)
	for _, x := range []struct {
		bytes  int64
		inodes int
		want   api.Errno
	}{
		{0, 0, api.OK}, {1, 0, api.OK}, {0, 1, api.OK}, {30, 3, api.OK}, {30, 0, api.OK}, {0, 3, api.OK},
		{31, 0, api.ErrRange}, {0, 4, api.ErrRange}, {31, 4, api.ErrRange}, {31, 3, api.ErrRange}, {30, 4, api.ErrRange},
		{-1, 0, api.ErrRange}, {0, -1, api.ErrRange}, {-1, 3, api.ErrRange}, {30, -1, api.ErrRange},
		{math.MaxInt64, 0, api.ErrRange}, {0, math.MaxInt, api.ErrRange}, {math.MinInt64, 0, api.ErrRange}, {0, math.MinInt, api.ErrRange},
	} {
		want := quota.Ledger{}
		if x.want == api.OK {
			want = quota.Ledger{Limits: limits, Bytes: 20, HeldBytes: 30 - x.bytes, Inodes: 2, HeldInodes: 3 - x.inodes}
		}
		if got, e := q.Free(x.bytes, x.inodes); got != want || e != x.want {
			t.Errorf("Free(%d, %d): %+v, %v; not %+v, %v", x.bytes, x.inodes, got, e, want, x.want)
		}
	}
}

// P15.3: Settle, at its edges, with its errors in their order; with an error the ledger is answered as it is.
func TestSettle(t *testing.T) {
	q := holder(t)
	for _, x := range []struct {
		bytes     int64
		inodes    int
		nowBytes  int64
		nowInodes int
		want      api.Errno
	}{
		{0, 0, 20, 2, api.OK}, {0, 0, 0, 0, api.OK}, {30, 3, 0, 0, api.OK}, {30, 3, 100, 10, api.OK}, {10, 1, 80, 8, api.OK}, {0, 0, 70, 7, api.OK},
		{30, 3, 101, 10, api.ErrQuota}, {30, 3, 100, 11, api.ErrQuota}, {10, 1, 81, 8, api.ErrQuota}, {10, 1, 80, 9, api.ErrQuota},
		{0, 0, 71, 7, api.ErrQuota}, {0, 0, 70, 8, api.ErrQuota}, {30, 0, 0, 8, api.ErrQuota}, {0, 3, 71, 0, api.ErrQuota},
		{0, 0, math.MaxInt64, 0, api.ErrQuota}, {0, 0, 0, math.MaxInt, api.ErrQuota}, {30, 3, math.MaxInt64, math.MaxInt, api.ErrQuota},
		{31, 0, 0, 0, api.ErrRange}, {0, 4, 0, 0, api.ErrRange}, {-1, 0, 0, 0, api.ErrRange}, {0, -1, 0, 0, api.ErrRange},
		{0, 0, -1, 0, api.ErrRange}, {0, 0, 0, -1, api.ErrRange}, {0, 0, math.MinInt64, 0, api.ErrRange}, {0, 0, 0, math.MinInt, api.ErrRange},
		{31, 0, 101, 0, api.ErrRange}, {0, 4, 0, 11, api.ErrRange}, {30, 3, -1, 11, api.ErrRange}, {30, 3, 101, -1, api.ErrRange},
	} {
		want := q
		if x.want == api.OK {
			want = quota.Ledger{Limits: limits, Bytes: x.nowBytes, HeldBytes: 30 - x.bytes, Inodes: x.nowInodes, HeldInodes: 3 - x.inodes}
		}
		if got, e := q.Settle(x.bytes, x.inodes, x.nowBytes, x.nowInodes); got != want || e != x.want {
			t.Errorf("Settle(%d, %d, %d, %d): %+v, %v; not %+v, %v", x.bytes, x.inodes, x.nowBytes, x.nowInodes, got, e, want, x.want)
		}
	}
}

// P15.2 and P15.3 at the greatest limits: no sum wraps round.
func TestGreatest(t *testing.T) {
	const most = quota.MaxCount
	l := api.Limits{Bytes: most, Inodes: most, Allow: most, Num: 1 << 31, Den: 1 << 31}
	q := settle(t, newLedger(t, l), 0, 0, most, most)
	for _, n := range []int64{1, most, most + 1, 2*most + 1, math.MaxInt64} {
		if got, e := q.Hold(n, 0); got != (quota.Ledger{}) || e != api.ErrQuota {
			t.Errorf("Hold(%d, 0): %+v, %v", n, got, e)
		}
		if got, e := q.Hold(0, int(n)); got != (quota.Ledger{}) || e != api.ErrQuota {
			t.Errorf("Hold(0, %d): %+v, %v", n, got, e)
		}
	}
	q = hold(t, newLedger(t, l), most, most)
	for _, n := range []int64{1, most, most + 1, 2*most + 1, math.MaxInt64} {
		if got, e := q.Hold(n, 0); got != (quota.Ledger{}) || e != api.ErrQuota {
			t.Errorf("Hold(%d, 0) of a full one: %+v, %v", n, got, e)
		}
		if got, e := q.Settle(0, 0, n, 0); got != q || e != api.ErrQuota {
			t.Errorf("Settle(0, 0, %d, 0): %+v, %v", n, got, e)
		}
		if got, e := q.Settle(0, 0, 0, int(n)); got != q || e != api.ErrQuota {
			t.Errorf("Settle(0, 0, 0, %d): %+v, %v", n, got, e)
		}
	}
	q = settle(t, q, most, most, most, most)
	if want := (quota.Ledger{Limits: l, Bytes: most, Inodes: most}); q != want {
		t.Errorf("%+v, not %+v", q, want)
	}
}

// modelLedger is a ledger in numbers of any size: bytes, and things.
type modelLedger struct{ has, held, limit [2]*big.Int }

func bigs(bytes int64, inodes int) [2]*big.Int {
	return [2]*big.Int{big.NewInt(bytes), big.NewInt(int64(inodes))}
}

func sum(a, b [2]*big.Int, sign int64) [2]*big.Int {
	var out [2]*big.Int
	for i := range out {
		out[i] = new(big.Int).Add(a[i], new(big.Int).Mul(big.NewInt(sign), b[i]))
	}
	return out
}

// anyAbove: is one of a's above that of b?
func anyAbove(a, b [2]*big.Int) bool { return a[0].Cmp(b[0]) > 0 || a[1].Cmp(b[1]) > 0 }

func anyBelowNothing(a [2]*big.Int) bool { return a[0].Sign() < 0 || a[1].Sign() < 0 }

func (m modelLedger) hold(n [2]*big.Int) (modelLedger, api.Errno) {
	if anyBelowNothing(n) {
		return m, api.ErrRange
	}
	if anyAbove(sum(sum(m.has, m.held, 1), n, 1), m.limit) {
		return m, api.ErrQuota
	}
	m.held = sum(m.held, n, 1)
	return m, api.OK
}

func (m modelLedger) free(n [2]*big.Int) (modelLedger, api.Errno) {
	if anyBelowNothing(n) || anyAbove(n, m.held) {
		return m, api.ErrRange
	}
	m.held = sum(m.held, n, -1)
	return m, api.OK
}

func (m modelLedger) settle(n, now [2]*big.Int) (modelLedger, api.Errno) {
	f, e := m.free(n)
	if e != api.OK {
		return m, e
	}
	if anyBelowNothing(now) {
		return m, api.ErrRange
	}
	if anyAbove(sum(now, f.held, 1), m.limit) {
		return m, api.ErrQuota
	}
	f.has = now
	return f, api.OK
}

func (m modelLedger) ledger(l api.Limits) quota.Ledger {
	return quota.Ledger{Limits: l, Bytes: m.has[0].Int64(), HeldBytes: m.held[0].Int64(), Inodes: int(m.has[1].Int64()), HeldInodes: int(m.held[1].Int64())}
}

// near is a number at random: near one that may be an edge, or any.
func near(rnd *rand.Rand, edges ...int64) int64 {
	if rnd.Intn(20) == 0 {
		return int64(rnd.Uint64())
	}
	return edges[rnd.Intn(len(edges))] + int64(rnd.Intn(3)-1)
}

// P15.2 and P15.3: rows of calls at random, held against the model.
func TestLedgerModel(t *testing.T) {
	rnd := rand.New(rand.NewSource(1))
	tops := []int64{0, 1, 5, 1000, 1<<31 - 1, 1 << 40, quota.MaxCount - 1, quota.MaxCount}
	for range 400 {
		l := api.Limits{Bytes: tops[rnd.Intn(len(tops))], Inodes: int(tops[rnd.Intn(len(tops))]), Den: 1}
		q := newLedger(t, l)
		m := modelLedger{has: bigs(0, 0), held: bigs(0, 0), limit: bigs(l.Bytes, l.Inodes)}
		for range 100 {
			bytes := near(rnd, 0, 1, q.HeldBytes, q.HeldBytes/2, l.Bytes-q.Bytes-q.HeldBytes, (l.Bytes-q.Bytes-q.HeldBytes)/2, l.Bytes)
			inodes := int(near(rnd, 0, 1, int64(q.HeldInodes), int64(q.HeldInodes/2), int64(l.Inodes-q.Inodes-q.HeldInodes), int64(l.Inodes-q.Inodes-q.HeldInodes)/2))
			nowBytes := near(rnd, 0, 1, q.Bytes, l.Bytes-q.HeldBytes, l.Bytes-q.HeldBytes+bytes, l.Bytes/3)
			nowInodes := int(near(rnd, 0, 1, int64(q.Inodes), int64(l.Inodes-q.HeldInodes), int64(l.Inodes-q.HeldInodes+inodes), int64(l.Inodes/3)))
			var got, refused quota.Ledger
			var next modelLedger
			var e, want api.Errno
			switch rnd.Intn(3) {
			case 0:
				got, e = q.Hold(bytes, inodes)
				next, want = m.hold(bigs(bytes, inodes))
			case 1:
				got, e = q.Free(bytes, inodes)
				next, want = m.free(bigs(bytes, inodes))
			default:
				refused = q
				got, e = q.Settle(bytes, inodes, nowBytes, nowInodes)
				next, want = m.settle(bigs(bytes, inodes), bigs(nowBytes, nowInodes))
			}
			if e != want || e != api.OK && got != refused {
				t.Fatalf("of %+v with %d, %d, %d, %d: %+v, %v, not %v", q, bytes, inodes, nowBytes, nowInodes, got, e, want)
			}
			m = next
			if e == api.OK {
				q = got
			}
			if q != m.ledger(l) {
				t.Fatalf("%+v, not %+v", q, m.ledger(l))
			}
		}
	}
}

// P15.4: Ratio, at its edges: three come out for two that came in, and seven more.
func TestRatio(t *testing.T) {
	for _, x := range []struct {
		in, out int64
		want    api.Errno
	}{
		{0, 0, api.OK}, {0, 7, api.OK}, {0, 8, api.ErrRatio}, {1, 8, api.OK}, {1, 9, api.ErrRatio}, {2, 10, api.OK}, {2, 11, api.ErrRatio},
		{100, 157, api.OK}, {100, 158, api.ErrRatio}, {math.MaxInt64, math.MaxInt64, api.OK}, {0, math.MaxInt64, api.ErrRatio},
		{-1, 0, api.ErrRange}, {0, -1, api.ErrRange}, {-1, -1, api.ErrRange}, {math.MinInt64, 8, api.ErrRange}, {8, math.MinInt64, api.ErrRange}, {-1, 8, api.ErrRange},
	} {
		if e := quota.Ratio(limits, x.in, x.out); e != x.want {
			t.Errorf("Ratio of %d and %d: %v, not %v", x.in, x.out, e, x.want)
		}
	}
}

// P15.4: the limits' other numbers don't count there, and no Num at all leaves Allow.
func TestRatioLimits(t *testing.T) {
	l := api.Limits{Bytes: -1, Inodes: -1, Depth: -1, Length: -1, Num: 0, Den: 1, Allow: 5}
	if e := quota.Ratio(l, math.MaxInt64, 5); e != api.OK {
		t.Errorf("as much as Allow: %v", e)
	}
	if e := quota.Ratio(l, math.MaxInt64, 6); e != api.ErrRatio {
		t.Errorf("one more than Allow: %v", e)
	}
	l = api.Limits{Num: 1 << 31, Den: 1 << 31}
	if quota.Ratio(l, math.MaxInt64, math.MaxInt64) != api.OK || quota.Ratio(l, math.MaxInt64-1, math.MaxInt64) != api.ErrRatio {
		t.Error("products that need more than one word")
	}
}

// modelRatio is P15.4 in numbers of any size.
func modelRatio(l api.Limits, in, out int64) api.Errno {
	if in < 0 || out < 0 {
		return api.ErrRange
	}
	beyond := new(big.Int).Sub(big.NewInt(out), big.NewInt(l.Allow))
	left := new(big.Int).Mul(beyond, big.NewInt(l.Den))
	right := new(big.Int).Mul(big.NewInt(in), big.NewInt(l.Num))
	if beyond.Sign() > 0 && left.Cmp(right) > 0 {
		return api.ErrRatio
	}
	return api.OK
}

// P15.4: all numbers at edges against each other, of limits that nobody checked, too.
func TestRatioEdges(t *testing.T) {
	edges := []int64{math.MinInt64, math.MinInt64 + 1, -1 << 32, -2, -1, 0, 1, 2, 3, 1 << 31, 1 << 32, 1<<62 - 1, math.MaxInt64 - 1, math.MaxInt64}
	for _, num := range edges {
		for _, den := range edges {
			for _, allow := range edges {
				l := api.Limits{Num: num, Den: den, Allow: allow}
				for _, in := range edges {
					for _, out := range edges {
						if e, want := quota.Ratio(l, in, out), modelRatio(l, in, out); e != want {
							t.Fatalf("Ratio(%+v, %d, %d): %v, not %v", l, in, out, e, want)
						}
					}
				}
			}
		}
	}
}

// P15.4: where both sides are about the same.
func TestRatioClose(t *testing.T) {
	rnd := rand.New(rand.NewSource(2))
	seen := map[api.Errno]int{}
	for range 50000 {
		l := api.Limits{Num: rnd.Int63n(1<<31 + 1), Den: 1 + rnd.Int63n(1<<31), Allow: rnd.Int63n(1 << rnd.Intn(62))}
		in := rnd.Int63() >> rnd.Intn(63)
		even := new(big.Int).Mul(big.NewInt(in), big.NewInt(l.Num))
		even.Add(even.Div(even, big.NewInt(l.Den)), big.NewInt(l.Allow))
		if !even.IsInt64() || even.Int64() == math.MaxInt64 {
			continue
		}
		for out := max(0, even.Int64()-1); out <= even.Int64()+1 && out >= 0; out++ {
			e := quota.Ratio(l, in, out)
			if want := modelRatio(l, in, out); e != want {
				t.Fatalf("Ratio(%+v, %d, %d): %v, not %v", l, in, out, e, want)
			}
			seen[e]++
			if out == math.MaxInt64 {
				break
			}
		}
	}
	if seen[api.OK] < 1000 || seen[api.ErrRatio] < 1000 {
		t.Errorf("too few of one answer: %v", seen)
	}
}

// P1: any numbers, and ledgers that nobody's call answered, end without a panic.
func TestAnyArguments(t *testing.T) {
	rnd := rand.New(rand.NewSource(3))
	edges := []int64{math.MinInt64, -1, 0, 1, quota.MaxCount, math.MaxInt64}
	for range 20000 {
		n := func() int64 { return near(rnd, edges...) }
		l := api.Limits{Bytes: n(), Inodes: int(n()), Depth: int(n()), Length: int(n()), Num: n(), Den: n(), Allow: n()}
		q := quota.Ledger{Limits: l, Bytes: n(), HeldBytes: n(), Inodes: int(n()), HeldInodes: int(n())}
		quota.Check(l)
		quota.New(l)
		quota.Ratio(l, n(), n())
		q.Hold(n(), int(n()))
		q.Free(n(), int(n()))
		q.Settle(n(), int(n()), n(), int(n()))
	}
}

// P2: a ledger stays as it is, whatever is asked of it, and answers the same once more.
func TestLedgerStays(t *testing.T) {
	q := holder(t)
	was := q
	for range 2 {
		if got := hold(t, q, 50, 5); got.HeldBytes != 80 || got.HeldInodes != 8 {
			t.Errorf("Hold: %+v", got)
		}
		if got, e := q.Free(30, 3); e != api.OK || got.HeldBytes != 0 || got.HeldInodes != 0 {
			t.Errorf("Free: %+v, %v", got, e)
		}
		if got := settle(t, q, 30, 3, 100, 10); got.Bytes != 100 || got.Inodes != 10 {
			t.Errorf("Settle: %+v", got)
		}
		q.Hold(51, 0)
		q.Free(31, 0)
		q.Settle(0, 0, 71, 0)
		if q != was {
			t.Fatalf("%+v, not %+v", q, was)
		}
	}
}
