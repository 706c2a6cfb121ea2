package ask_test

import (
	"bytes"
	"encoding/hex"
	"math"
	"math/big"
	"math/rand"
	"reflect"
	"regexp"
	"strconv"
	"strings"
	"testing"

	"pannier/api"
	"pannier/ask"
)

// same: are two asks one? An empty list may be nil or not.
func same(a, b ask.Ask) bool {
	if !bytes.Equal(a.Data, b.Data) {
		return false
	}
	a.Data, b.Data = nil, nil
	return reflect.DeepEqual(a, b)
}

// reads: the line asks that, and what it asks is written as that line.
func reads(t *testing.T, line string, want ask.Ask) {
	t.Helper()
	a, e := ask.Decode(line)
	if e != api.OK || !same(a, want) {
		t.Errorf("Decode(%.60q): %+v %v, not %+v", line, a, e, want)
	}
	if got := ask.Encode(want); got != line {
		t.Errorf("Encode(%+v): %.60q, not %.60q", want, got, line)
	}
}

func refuse(t *testing.T, want api.Errno, lines ...string) {
	t.Helper()
	for _, line := range lines {
		if a, e := ask.Decode(line); e != want || !reflect.DeepEqual(a, ask.Ask{}) {
			t.Errorf("Decode(%.60q): %+v %v, not %v", line, a, e, want)
		}
	}
}

func letters(n int) string { return strings.Repeat("a", n) }

func TestLimits(t *testing.T) {
	if ask.MaxNumber != 1048576 || ask.MaxLine != 16384 {
		t.Errorf("limits: %d %d", ask.MaxNumber, ask.MaxLine)
	}
}

// The kinds have the numbers of their order, from 1 on.
func TestKinds(t *testing.T) {
	got := []int{ask.Open, ask.Send, ask.Commit, ask.Abort, ask.List, ask.Stat, ask.Delete, ask.Get, ask.Pull, ask.Close, ask.Tick}
	for i, kind := range got {
		if kind != i+1 {
			t.Errorf("kind %d is %d", i+1, kind)
		}
	}
}

func TestExample(t *testing.T) {
	reads(t, "send 1 2 6869", ask.Ask{Kind: ask.Send, Tenant: 1, Number: 2, Data: []byte("hi")})
}

// P20.1, P20.3: a line of every kind.
func TestLines(t *testing.T) {
	reads(t, "open 3", ask.Ask{Kind: ask.Open, Tenant: 3})
	reads(t, "send 1 2 00ff", ask.Ask{Kind: ask.Send, Tenant: 1, Number: 2, Data: []byte{0, 255}})
	reads(t, "commit 4 5", ask.Ask{Kind: ask.Commit, Tenant: 4, Number: 5})
	reads(t, "abort 6 7", ask.Ask{Kind: ask.Abort, Tenant: 6, Number: 7})
	reads(t, "list 8 a", ask.Ask{Kind: ask.List, Tenant: 8, Path: "a"})
	reads(t, "stat 9 b/c", ask.Ask{Kind: ask.Stat, Tenant: 9, Path: "b/c"})
	reads(t, "delete 10 .", ask.Ask{Kind: ask.Delete, Tenant: 10, Path: "."})
	reads(t, "get 11 /d", ask.Ask{Kind: ask.Get, Tenant: 11, Path: "/d"})
	reads(t, "pull 12 13 14", ask.Ask{Kind: ask.Pull, Tenant: 12, Number: 13, Count: 14})
	reads(t, "close 15 16", ask.Ask{Kind: ask.Close, Tenant: 15, Number: 16})
	reads(t, "tick 17", ask.Ask{Kind: ask.Tick, Count: 17})
}

// P20.3: an empty Path, and empty Data, have no blank ahead.
func TestEmpty(t *testing.T) {
	for word, kind := range map[string]int{"list": ask.List, "stat": ask.Stat, "delete": ask.Delete, "get": ask.Get} {
		reads(t, word+" 2", ask.Ask{Kind: kind, Tenant: 2})
	}
	reads(t, "send 0 1", ask.Ask{Kind: ask.Send, Number: 1})
}

// P20.2: a blank at the end has nothing behind it: that is taken of every kind, but behind Data it would be a digit.
func TestBlankAtEnd(t *testing.T) {
	for _, line := range []string{"open 3", "send 1 2", "commit 1 2", "abort 1 2", "list 1", "stat 1", "delete 1", "get 1", "pull 1 2 3", "close 1 2", "tick 1"} {
		a, e := ask.Decode(line + " ")
		if e != api.OK || ask.Encode(a) != line {
			t.Errorf("%q and a blank: %+v %v", line, a, e)
		}
	}
	refuse(t, api.ErrWord, "send 1 2 6869 ")
}

// P20.2: a Path is all that stands behind the blank, whatever it is.
func TestPaths(t *testing.T) {
	for _, path := range []string{" ", "  ", " a ", "a b c", "a\x00b", "a\nb", "\n", "\t", "\xff\xfe", "ä/ö", "0", "1 2", "..", "//", letters(5000)} {
		for word, kind := range map[string]int{"list": ask.List, "stat": ask.Stat, "delete": ask.Delete, "get": ask.Get} {
			reads(t, word+" 7 "+path, ask.Ask{Kind: kind, Tenant: 7, Path: path})
		}
	}
}

// P20.2: Data is two digits a byte.
func TestData(t *testing.T) {
	var all []byte
	for n := range 256 {
		all = append(all, byte(n))
		reads(t, "send 0 0 "+hex.EncodeToString([]byte{byte(n)}), ask.Ask{Kind: ask.Send, Data: []byte{byte(n)}})
	}
	reads(t, "send 0 0 "+hex.EncodeToString(all), ask.Ask{Kind: ask.Send, Data: all})
	const digits = "0123456789abcdef"
	for n := range 256 {
		if c := string([]byte{byte(n)}); !strings.Contains(digits, c) {
			refuse(t, api.ErrWord, "send 0 0 "+c+"0", "send 0 0 0"+c, "send 0 0 00"+c+"0", "send 0 0 "+c+c, "send 0 0 000"+c+"00")
		}
	}
	refuse(t, api.ErrWord, "send 0 0 0", "send 0 0 000", "send 0 0 AB", "send 0 0 0x00", "send 0 0 00 00", "send 0 0  00", "send 0 0 00 ", "send 0 0  ", "send 0 0 é", "send 0 0 0é0")
}

// P20.2: first words that are none of these.
func TestFirstWord(t *testing.T) {
	refuse(t, api.ErrWord, "", " ", "  ", " open 1", "Open 1", "OPEN 1", "opens 1", "ope 1", "o 1", "\topen 1", "open\t1", "open\n1", "open1", "open,1", "put 1", "1", "1 2", "0", "tick\x00 1", "listt 1 a", "lis 1 a", "\x00", "ä")
}

// P20.2: words that stand where a number must.
func TestNoNumber(t *testing.T) {
	wrong := []string{"", "x", "-1", "-0", "+1", "+0", "00", "01", "007", "1x", "x1", "0x1", "1_0", "1.0", "1e3", ".", "-", "+", "\t1", "1\t", "1\n", "1\r", "1\x00", "١", "²", "1048577x", "01048577", "-1048577", "9223372036854775808", "18446744073709551615", "18446744073709551616", "18446744073709551617", "99999999999999999999", "36893488147419103233", strings.Repeat("9", 200), "0" + strings.Repeat("9", 30)}
	for _, w := range wrong {
		for _, line := range []string{"open #", "send # 1 00", "send 1 # 00", "commit # 1", "commit 1 #", "abort # 1", "abort 1 #", "list # a", "stat # a", "delete # a", "get # a", "pull # 1 1", "pull 1 # 1", "pull 1 1 #", "close # 1", "close 1 #", "tick #"} {
			refuse(t, api.ErrWord, strings.ReplaceAll(line, "#", w))
		}
	}
}

// P20.2: words that aren't there.
func TestFewWords(t *testing.T) {
	refuse(t, api.ErrWord, "open", "send", "commit", "abort", "list", "stat", "delete", "get", "pull", "close", "tick")
	refuse(t, api.ErrWord, "open ", "send ", "commit ", "abort ", "list ", "stat ", "delete ", "get ", "pull ", "close ", "tick ")
	refuse(t, api.ErrWord, "send 1", "commit 1", "abort 1", "pull 1", "close 1", "send 1 ", "commit 1 ", "abort 1 ", "pull 1 ", "close 1 ")
	refuse(t, api.ErrWord, "pull 1 2", "pull 1 2 ", "open  1", "commit  1 2", "commit 1  2", "pull 1 2  3", "list  1 a", "tick  1")
}

// P20.2: words that are too many.
func TestManyWords(t *testing.T) {
	refuse(t, api.ErrWord, "open 1 2", "open 1 x", "open 1  ", "commit 1 2 3", "abort 1 2 3", "pull 1 2 3 4", "close 1 2 3", "tick 1 2", "tick 1  ", "close 1 2  ", "open 1 \x00", "tick 1 \n")
	refuse(t, api.ErrWord, "open 1 1048577", "tick 0 1048577")
}

// P20.2: numbers up to MaxNumber are taken, those above it, while they fit into 64 bits, are ErrRange.
func TestRange(t *testing.T) {
	forms := []string{"open #", "send # 1 00", "send 1 # 00", "commit # 1", "commit 1 #", "abort # 1", "abort 1 #", "list # a", "stat # a", "delete # a", "get # a", "pull # 1 1", "pull 1 # 1", "pull 1 1 #", "close # 1", "close 1 #", "tick #"}
	for _, form := range forms {
		for _, n := range []int{0, 1, 9, 10, 99, 65536, ask.MaxNumber - 1, ask.MaxNumber} {
			line := strings.ReplaceAll(form, "#", strconv.Itoa(n))
			a, e := ask.Decode(line)
			if e != api.OK || ask.Encode(a) != line || a.Tenant != n && a.Number != n && a.Count != n {
				t.Errorf("%q: %+v %v", line, a, e)
			}
		}
		for _, n := range []uint64{ask.MaxNumber + 1, 1 << 21, 1<<31 - 1, 1 << 31, 1 << 32, 1<<32 + 1, 1 << 53, 1<<63 - 1} {
			refuse(t, api.ErrRange, strings.ReplaceAll(form, "#", strconv.FormatUint(n, 10)))
		}
	}
}

// P20.2: the first word that is wrong tells the error, and the numbers tell theirs ahead of what stands behind them.
func TestFirstWrong(t *testing.T) {
	refuse(t, api.ErrRange, "send 1048577 x", "send 1048577 x zz", "send 1 1048577 zz", "send 1 1048577 0", "commit 1048577", "commit 1048577 01", "commit 1048577 1 x", "pull 1048577", "pull 0 1048577 x", "pull 0 0 1048577 x", "open 1048577 x", "tick 1048577 x", "close 1048577 99999999999999999999")
	refuse(t, api.ErrWord, "send x 1048577", "commit 01 1048577", "pull 0 x 1048577", "pull 0  1048577", "pull 9223372036854775808 1048577 1", "close -1 1048577")
	refuse(t, api.ErrWord, "opens 1048577", " open 1048577")
}

// P20.2: a line of MaxLine bytes is read, a longer one isn't, whatever it is.
func TestLong(t *testing.T) {
	path := letters(ask.MaxLine - len("list 0 "))
	reads(t, "list 0 "+path, ask.Ask{Kind: ask.List, Path: path})
	refuse(t, api.ErrLong, "list 0 "+path+"a", "list 0 "+path+" ")
	refuse(t, api.ErrWord, letters(ask.MaxLine), strings.Repeat(" ", ask.MaxLine), "open "+strings.Repeat("9", ask.MaxLine-5))
	refuse(t, api.ErrLong, letters(ask.MaxLine+1), strings.Repeat(" ", ask.MaxLine+1), "open "+strings.Repeat("9", ask.MaxLine-4), letters(1<<20))
	data := bytes.Repeat([]byte{0x5a}, (ask.MaxLine-len("send 10 1 "))/2)
	reads(t, "send 10 1 "+strings.Repeat("5a", len(data)), ask.Ask{Kind: ask.Send, Tenant: 10, Number: 1, Data: data})
	refuse(t, api.ErrLong, "send 100 1 "+strings.Repeat("5a", len(data)))
}

// P20.3: what is no kind has no line.
func TestNoKind(t *testing.T) {
	for _, kind := range []int{0, -1, 12, 13, 256 + ask.Open, 1<<32 + ask.Open, math.MinInt, math.MaxInt, math.MinInt + ask.Open} {
		a := ask.Ask{Kind: kind, Tenant: 1, Number: 2, Count: 3, Path: "a", Data: []byte("b")}
		if line := ask.Encode(a); line != "" {
			t.Errorf("Encode of kind %d: %q", kind, line)
		}
	}
}

// P1: Encode takes asks that Decode never answers.
func TestAnyAsk(t *testing.T) {
	for kind := -1; kind <= 13; kind++ {
		for _, n := range []int{math.MinInt, -1, 0, ask.MaxNumber + 1, math.MaxInt} {
			ask.Encode(ask.Ask{Kind: kind, Tenant: n, Number: n, Count: n, Path: letters(20000), Data: make([]byte, 20000)})
			ask.Encode(ask.Ask{Kind: kind, Tenant: n, Number: n, Count: n})
		}
	}
}

// P2: Data is new memory each time, its spare room too, and Encode changes nothing that it is given.
func TestNewMemory(t *testing.T) {
	const line = "send 1 2 00112233"
	a, _ := ask.Decode(line)
	full := a.Data[:cap(a.Data)]
	for i := range full {
		full[i] = 0xee
	}
	b, e := ask.Decode(line)
	if want := []byte{0, 0x11, 0x22, 0x33}; e != api.OK || !bytes.Equal(b.Data, want) {
		t.Errorf("once more: %x %v", b.Data, e)
	}
	room := append(make([]byte, 0, 16), b.Data...)
	c := ask.Ask{Kind: ask.Send, Tenant: 1, Number: 2, Data: room}
	if got := ask.Encode(c); got != line {
		t.Errorf("Encode: %q", got)
	}
	if !bytes.Equal(room[:16], append([]byte{0, 0x11, 0x22, 0x33}, make([]byte, 12)...)) {
		t.Errorf("what was handed in is %x", room[:16])
	}
}

// forms: by its first word each kind's number, the fields that it has as numbers, and what stands behind them.
var forms = map[string]struct {
	kind    int
	numbers string
	last    string
}{
	"open":   {1, "t", ""},
	"send":   {2, "tn", "data"},
	"commit": {3, "tn", ""},
	"abort":  {4, "tn", ""},
	"list":   {5, "t", "path"},
	"stat":   {6, "t", "path"},
	"delete": {7, "t", "path"},
	"get":    {8, "t", "path"},
	"pull":   {9, "tnc", ""},
	"close":  {10, "tn", ""},
	"tick":   {11, "c", ""},
}

var (
	decimal = regexp.MustCompile(`\A(0|[1-9][0-9]*)\z`)
	pairs   = regexp.MustCompile(`\A([0-9a-f][0-9a-f])*\z`)
)

// model: P20.2 in its own words, by the library's means.
func model(line string) (ask.Ask, api.Errno) {
	if len(line) > 16384 {
		return ask.Ask{}, api.ErrLong
	}
	words := strings.Split(line, " ")
	form, ok := forms[words[0]]
	if !ok {
		return ask.Ask{}, api.ErrWord
	}
	a := ask.Ask{Kind: form.kind}
	words = words[1:]
	for _, field := range form.numbers {
		if len(words) == 0 || !decimal.MatchString(words[0]) {
			return ask.Ask{}, api.ErrWord
		}
		n, _ := new(big.Int).SetString(words[0], 10)
		if !n.IsInt64() {
			return ask.Ask{}, api.ErrWord
		}
		if n.Int64() > 1048576 {
			return ask.Ask{}, api.ErrRange
		}
		*map[rune]*int{'t': &a.Tenant, 'n': &a.Number, 'c': &a.Count}[field] = int(n.Int64())
		words = words[1:]
	}
	rest := strings.Join(words, " ")
	switch {
	case form.last == "path":
		a.Path = rest
	case form.last == "data" && pairs.MatchString(rest):
		a.Data, _ = hex.DecodeString(rest)
	case rest != "":
		return ask.Ask{}, api.ErrWord
	}
	return a, api.OK
}

// checkLine: P20.2 and P20.3 of one line.
func checkLine(t testing.TB, line string) bool {
	t.Helper()
	want, wantErr := model(line)
	a, e := ask.Decode(line)
	if e != wantErr || !same(a, want) {
		t.Fatalf("Decode(%q): %+v %v, not %+v %v", line, a, e, want, wantErr)
	}
	if e != api.OK {
		return false
	}
	back := line
	if a.Path == "" && len(a.Data) == 0 {
		back = strings.TrimSuffix(line, " ")
	}
	if got := ask.Encode(a); got != back {
		t.Fatalf("Encode of %q: %q", line, got)
	}
	return true
}

func pick(r *rand.Rand, list ...string) string { return list[r.Intn(len(list))] }

func anyWord(r *rand.Rand) string {
	switch r.Intn(12) {
	case 0:
		return pick(r, "", "x", "01", "-1", "+1", "00", "0G", "a b", " ", "1048577", "9223372036854775807", "9223372036854775808")
	case 1:
		return strconv.FormatUint(r.Uint64()>>r.Intn(64), 10)
	case 2:
		return hex.EncodeToString([]byte(strconv.Itoa(r.Intn(1000000))))
	}
	return strconv.Itoa(r.Intn(ask.MaxNumber + 1))
}

func anyLine(r *rand.Rand) string {
	line := pick(r, "open", "send", "commit", "abort", "list", "stat", "delete", "get", "pull", "close", "tick")
	for range r.Intn(5) {
		line += " " + anyWord(r)
	}
	if b := []byte(line); r.Intn(4) == 0 {
		b[r.Intn(len(b))] = pick(r, " ", "0", "1", "f", "x", "\x00", "\xff")[0]
		return string(b)
	}
	return line
}

// P20.2, P20.3: lines by chance, right and wrong ones, against the model.
func TestModel(t *testing.T) {
	r := rand.New(rand.NewSource(20))
	right := 0
	for range 200000 {
		if checkLine(t, anyLine(r)) {
			right++
		}
	}
	if right < 20000 || right > 180000 {
		t.Errorf("%d right lines of 200000", right)
	}
}

func FuzzDecode(f *testing.F) {
	for _, line := range []string{"", "open 3", "send 1 2 00ff", "list 2  a ", "pull 1 2 65536", "tick 9223372036854775808", "close 1 1048577"} {
		f.Add(line)
	}
	f.Fuzz(func(t *testing.T, line string) { checkLine(t, line) })
}
