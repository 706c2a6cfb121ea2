package serve_test

import (
	"maps"
	"math"
	"math/rand"
	"reflect"
	"slices"
	"strings"
	"testing"

	"pannier/api"
	"pannier/ask"
	"pannier/block"
	"pannier/extent"
	"pannier/fault"
	"pannier/head"
	"pannier/path"
	"pannier/pull"
	"pannier/quota"
	"pannier/serve"
	"pannier/stage"
	"pannier/tree"
	"pannier/usage"
)

// thing is something that is published: two names of one file are one thing. Its node has no content, but the bytes.
type thing struct {
	tree.Node
	data string
}

// upload is one of a model: all that came, and the same laid out in a store of its own.
type upload struct {
	asked int
	came  []byte
	stage *stage.Stage
}

// download is one of a model: the whole of it, made when it was opened, and how much was pulled.
type download struct {
	asked int
	b     []byte
	at    int
}

// owner is a tenant of a model.
type owner struct {
	limits         api.Limits
	at             map[string]*thing
	uploads        map[int]*upload
	downloads      map[int]*download
	opened, pulled int
}

// model is a server in the promises' words: tenants that share nothing but how many uploads and downloads there may be.
type model struct {
	owners []*owner
	now    int
}

func modelOf(limits ...api.Limits) *model {
	m := &model{}
	for _, l := range limits {
		m.owners = append(m.owners, &owner{limits: l, at: map[string]*thing{}, uploads: map[int]*upload{}, downloads: map[int]*download{}})
	}
	return m
}

func store() *block.Arena {
	a, e := block.New(block.MaxBlocks)
	if e != api.OK {
		panic("no store")
	}
	return a
}

func (m *model) underWay() (int, int) {
	uploads, downloads := 0, 0
	for _, o := range m.owners {
		uploads += len(o.uploads)
		downloads += len(o.downloads)
	}
	return uploads, downloads
}

// ledger is P21.6, of what there is now.
func (o *owner) ledger() quota.Ledger {
	q := quota.Ledger{Limits: o.limits}
	for x := range o.names() {
		q.Bytes += int64(len(x.data))
		q.Inodes++
	}
	for _, u := range o.uploads {
		n, k := u.stage.Held()
		q.HeldBytes += n
		q.HeldInodes += k
	}
	return q
}

// names is how many names each thing has.
func (o *owner) names() map[*thing]int {
	all := map[*thing]int{}
	for _, x := range o.at {
		all[x]++
	}
	return all
}

func (o *owner) staged() usage.Usage {
	var all usage.Usage
	for _, u := range o.uploads {
		all = all.Plus(usage.Of(u.stage.Tree()))
	}
	return all
}

func (o *owner) paths() []string { return slices.SortedFunc(maps.Keys(o.at), path.Compare) }

// tree is what is published as a tree, with its bytes in a store.
func (o *owner) tree(a *block.Arena) tree.Tree {
	var t tree.Tree
	rows := map[*thing]tree.Row{}
	for _, s := range o.paths() {
		x := o.at[s]
		r, found := rows[x]
		if !found {
			r = tree.Row{ID: len(rows), Node: x.Node}
			r.Content, _ = extent.Append(a, extent.Content{}, []byte(x.data))
			rows[x] = r
		}
		r.Path = s
		t = t.Put(r)
	}
	return t
}

// thingsOf is an archive that comes as a whole, by its paths.
func thingsOf(b []byte) map[string]*thing {
	a := store()
	s := stage.New(a)
	if _, err := s.Feed(quota.Ledger{Limits: wide}, b); err != nil {
		panic("an archive that is refused as a whole")
	}
	at, numbers := map[string]*thing{}, map[int]*thing{}
	for _, r := range s.Tree().Rows {
		if numbers[r.ID] == nil {
			data, _ := extent.Read(a, r.Content, 0, r.Content.Size)
			r.Content = extent.Content{}
			numbers[r.ID] = &thing{Node: r.Node, data: string(data)}
		}
		at[r.Path] = numbers[r.ID]
	}
	return at
}

// publish lays an archive over what is published.
func (o *owner) publish(b []byte) api.Errno {
	upper := thingsOf(b)
	for s, x := range upper {
		if was := o.at[s]; was != nil && (was.Kind == api.Dir) != (x.Kind == api.Dir) {
			return api.ErrClash
		}
	}
	for s, x := range upper {
		if o.at[s] == nil || !x.Made {
			o.at[s] = x
		}
	}
	return api.OK
}

func (m *model) ask(a ask.Ask) (serve.Reply, error) {
	if a.Kind == ask.Tick {
		m.tick(a.Count)
		return serve.Reply{}, nil
	}
	o := m.owners[a.Tenant]
	var r serve.Reply
	var err error
	e := api.OK
	switch a.Kind {
	case ask.Open:
		r.Number, e = m.open(o)
	case ask.Send, ask.Commit, ask.Abort:
		err = m.ofUpload(o, a)
	case ask.Pull, ask.Close:
		r, e = m.ofDownload(o, a)
	default:
		r, e = m.atPath(o, a)
	}
	if e != api.OK {
		err = e
	}
	return r, fault.Wrap(err, a.Tenant)
}

func (m *model) tick(count int) {
	m.now += count
	for _, o := range m.owners {
		maps.DeleteFunc(o.uploads, func(_ int, u *upload) bool { return m.now-u.asked >= 8 })
		maps.DeleteFunc(o.downloads, func(_ int, d *download) bool { return m.now-d.asked >= 8 })
	}
}

func (m *model) open(o *owner) (int, api.Errno) {
	if uploads, _ := m.underWay(); uploads == 16 {
		return 0, api.ErrFull
	}
	o.opened++
	o.uploads[o.opened] = &upload{asked: m.now, stage: stage.New(store())}
	return o.opened, api.OK
}

func (m *model) ofUpload(o *owner, a ask.Ask) error {
	u := o.uploads[a.Number]
	if u == nil {
		return api.ErrMissing
	}
	u.asked = m.now
	if a.Kind == ask.Send {
		u.came = append(u.came, a.Data...)
		_, err := u.stage.Feed(o.ledger(), a.Data)
		if err != nil {
			delete(o.uploads, a.Number)
		}
		return err
	}
	delete(o.uploads, a.Number)
	if a.Kind == ask.Abort {
		return nil
	}
	if err := u.stage.End(); err != nil {
		return err
	}
	if e := o.publish(u.came); e != api.OK {
		return e
	}
	return nil
}

func (m *model) ofDownload(o *owner, a ask.Ask) (serve.Reply, api.Errno) {
	d := o.downloads[a.Number]
	if d == nil {
		return serve.Reply{}, api.ErrMissing
	}
	d.asked = m.now
	if a.Kind == ask.Close {
		delete(o.downloads, a.Number)
		return serve.Reply{}, api.OK
	}
	if a.Count < 1 || a.Count > 65536 {
		return serve.Reply{}, api.ErrRange
	}
	from := d.at
	d.at = min(len(d.b), d.at+a.Count)
	return serve.Reply{Data: d.b[from:d.at], Done: d.at == len(d.b)}, api.OK
}

func (m *model) atPath(o *owner, a ask.Ask) (serve.Reply, api.Errno) {
	parts, e := path.Clean(a.Path)
	if e != api.OK {
		return serve.Reply{}, e
	}
	s := strings.Join(parts, "/")
	if _, downloads := m.underWay(); a.Kind == ask.Get && downloads == 16 {
		return serve.Reply{}, api.ErrFull
	}
	x := o.at[s]
	if s == "" {
		x = &thing{Node: tree.Node{Kind: api.Dir}}
	}
	if x == nil {
		return serve.Reply{}, api.ErrMissing
	}
	var r serve.Reply
	switch a.Kind {
	case ask.List:
		if x.Kind != api.Dir {
			return serve.Reply{}, api.ErrClash
		}
		for _, other := range o.paths() {
			if up, _ := path.Up(other); up == s {
				r.Names = append(r.Names, other[strings.LastIndex(other, "/")+1:])
			}
		}
	case ask.Stat:
		r.Entry = api.Entry{Path: s, Link: x.Target, Kind: x.Kind, Mode: x.Mode, Uid: x.Uid, Gid: x.Gid, Mtime: x.Mtime, Size: int64(len(x.data)), User: x.User, Group: x.Group}
	case ask.Delete:
		maps.DeleteFunc(o.at, func(other string, _ *thing) bool { return path.Under(s, other) })
	case ask.Get:
		b := store()
		p, _ := pull.Open(b, o.tree(b), s)
		o.pulled++
		r.Number = o.pulled
		o.downloads[o.pulled] = &download{asked: m.now, b: allOf(p)}
	}
	return r, api.OK
}

func allOf(p *pull.Pull) []byte {
	var out []byte
	for !p.Done() {
		b, e := p.Next(pull.MaxPiece)
		if e != api.OK {
			panic("what was laid out can't be written")
		}
		out = append(out, b...)
	}
	return out
}

// like holds a server against the model.
func (m *model) like(x *box) bool {
	_, uploads, downloads := x.s.Free()
	if u, d := m.underWay(); u != uploads || d != downloads {
		return false
	}
	for n, o := range m.owners {
		if x.s.Ledger(n) != o.ledger() || x.s.Staged(n) != o.staged() || !o.like(x.s.Tree(n)) {
			return false
		}
	}
	return true
}

func (o *owner) like(t tree.Tree) bool {
	names := o.names()
	numbers := map[int]*thing{}
	for i, s := range o.paths() {
		if i >= len(t.Rows) || t.Rows[i].Path != s {
			return false
		}
		r, x := t.Rows[i], o.at[s]
		if numbers[r.ID] == nil {
			numbers[r.ID] = x
		}
		same := numbers[r.ID] == x && t.Names(r.ID) == names[x] && r.ID < t.Next && r.Content.Size == len(x.data)
		r.Content = extent.Content{}
		if !same || !reflect.DeepEqual(r.Node, x.Node) {
			return false
		}
	}
	return len(t.Rows) == len(o.at)
}

// alike: an empty list may be nil or not.
func alike(a, b serve.Reply) bool {
	if len(a.Names)+len(b.Names) == 0 {
		a.Names, b.Names = nil, nil
	}
	if len(a.Data)+len(b.Data) == 0 {
		a.Data, b.Data = nil, nil
	}
	return reflect.DeepEqual(a, b)
}

// anyEntry is an archive with some entry behind it, mostly one that is taken.
func anyEntry(r *rand.Rand, b []byte) []byte {
	names := []string{"a", "b", "c", "d/a", "d/b", "d/e/f", "d/e", "./a", "d//b/", "e/f/g/h", ".", "long-name", "d", "e"}
	links := []string{"a", "b", "d/a", "./d/b", "c"}
	if r.Intn(60) == 0 {
		names = []string{"../a", "/a", "a/../b", ""}
	}
	h := head.Header{Name: names[r.Intn(len(names))], Mode: int64(r.Intn(0o10000)), Uid: int64(r.Intn(9)), Mtime: int64(r.Intn(99)), User: text(r.Intn(5))}
	data := ""
	switch r.Intn(9) {
	case 0, 1, 2, 3:
		h.Type = '0'
		data = text(r.Intn(3) * r.Intn(100))
	case 4:
		h.Type, h.Link = '1', links[r.Intn(len(links))]
	case 5, 6:
		h.Type, h.Link = '2', []string{"a", "d/../b", "x/y/z", "."}[r.Intn(4)]
	default:
		h.Type = '5'
		h.Name = []string{"d", "d/e", "e", "e/f", ".", "new/"}[r.Intn(6)]
	}
	b = putHeader(b, h, data)
	if r.Intn(200) == 0 {
		b[len(b)-1]++
	}
	return b
}

// client makes up what tenants ask.
type client struct {
	r     *rand.Rand
	todo  [8]map[int][][]byte // what of each upload wasn't sent yet
	downs [8]map[int][][]byte // downloads, by their numbers
}

func newClient(r *rand.Rand) *client {
	c := &client{r: r}
	for n := range c.todo {
		c.todo[n], c.downs[n] = map[int][][]byte{}, map[int][][]byte{}
	}
	return c
}

// pieces is some archive in pieces, most of them whole.
func (c *client) pieces() [][]byte {
	var b []byte
	for range c.r.Intn(5) {
		b = anyEntry(c.r, b)
	}
	if c.r.Intn(6) > 0 {
		b = whole(b)
	}
	return slices.Collect(slices.Chunk(b, 1+c.r.Intn(3000)))
}

// number is mostly that of what is under way.
func (c *client) number(of map[int][][]byte) int {
	if len(of) == 0 || c.r.Intn(20) == 0 {
		return c.r.Intn(10) - 1
	}
	return slices.Sorted(maps.Keys(of))[c.r.Intn(len(of))]
}

func (c *client) next(tenants int) ask.Ask {
	n := c.r.Intn(tenants)
	a := ask.Ask{Tenant: n}
	switch k := c.r.Intn(40); {
	case k == 0:
		return ask.Ask{Kind: ask.Tick, Count: c.r.Intn(1 + c.r.Intn(9))}
	case k < 6:
		a.Kind = ask.Open
	case k < 20:
		a.Kind, a.Number = ask.Send, c.number(c.todo[n])
		if left := c.todo[n][a.Number]; len(left) > 0 {
			a.Data = left[0]
			c.todo[n][a.Number] = left[1:]
		} else if c.r.Intn(6) > 0 {
			a.Kind = ask.Commit
		}
	case k < 22:
		a.Kind, a.Number = []int{ask.Commit, ask.Abort}[c.r.Intn(2)], c.number(c.todo[n])
	case k < 31:
		a.Kind = []int{ask.List, ask.Stat, ask.Get, ask.Get, ask.List, ask.Stat, ask.Delete}[c.r.Intn(7)]
		a.Path = []string{".", "a", "b", "d", "d/e", "./d//a", "..", "nix", "", "e/f", "d/e/f", "d/b", "e", "c"}[c.r.Intn(14)]
		if a.Kind == ask.Delete && c.r.Intn(3) > 0 {
			a.Path = "d/e"
		}
	case k < 38:
		a.Kind, a.Number, a.Count = ask.Pull, c.number(c.downs[n]), c.r.Intn(1+c.r.Intn(6000))*c.r.Intn(20)
	default:
		a.Kind, a.Number = ask.Close, c.number(c.downs[n])
	}
	return a
}

// learn keeps in mind what is under way now.
func (c *client) learn(a ask.Ask, r serve.Reply, err error) {
	switch a.Kind {
	case ask.Open:
		if err == nil {
			c.todo[a.Tenant][r.Number] = c.pieces()
		}
	case ask.Get:
		if err == nil {
			c.downs[a.Tenant][r.Number] = nil
		}
	case ask.Send, ask.Commit, ask.Abort:
		if err != nil || a.Kind != ask.Send {
			delete(c.todo[a.Tenant], a.Number)
		}
	case ask.Pull, ask.Close:
		if fault.Is(err, api.ErrMissing) || a.Kind == ask.Close {
			delete(c.downs[a.Tenant], a.Number)
		}
	}
}

func anyLimits(r *rand.Rand) api.Limits {
	l := wide
	if r.Intn(2) == 0 {
		l.Bytes = int64(r.Intn(800))
	}
	if r.Intn(2) == 0 {
		l.Inodes = r.Intn(14)
	}
	if r.Intn(4) == 0 {
		l.Depth, l.Length = 1+r.Intn(4), 1+r.Intn(9)
	}
	if r.Intn(4) == 0 {
		l.Num, l.Den, l.Allow = int64(r.Intn(3)), int64(1+r.Intn(20)), int64(r.Intn(400))
	}
	return l
}

// P21.1 to P21.7: whatever is asked, held against the model, answer by answer. Its tenants have stores of their own, so that none can be seen by another one.
func TestModel(t *testing.T) {
	r := rand.New(rand.NewSource(21))
	type end struct {
		kind int
		e    api.Errno
	}
	ends := map[end]int{}
	for range 300 {
		limits := []api.Limits{wide, anyLimits(r), anyLimits(r)}
		x, m, c := newBox(t, block.MaxBlocks, limits...), modelOf(limits...), newClient(r)
		for range 200 {
			a := c.next(len(limits))
			got, err := x.ask(a)
			want, wantErr := m.ask(a)
			if !alike(got, want) || !reflect.DeepEqual(err, wantErr) {
				t.Fatalf("%+v: %+v %v, not %+v %v", a, got, err, want, wantErr)
			}
			if !m.like(x) {
				t.Fatalf("behind %+v: not like the model", a)
			}
			c.learn(a, got, err)
			ends[end{a.Kind, fault.Code(err)}]++
		}
	}
	for _, want := range []end{
		{ask.Open, 0}, {ask.Send, 0}, {ask.Send, api.ErrMissing}, {ask.Send, api.ErrQuota}, {ask.Send, api.ErrRatio}, {ask.Send, api.ErrClash}, {ask.Send, api.ErrDots},
		{ask.Commit, 0}, {ask.Commit, api.ErrMissing}, {ask.Commit, api.ErrShort}, {ask.Commit, api.ErrClash}, {ask.Abort, 0}, {ask.Abort, api.ErrMissing},
		{ask.List, 0}, {ask.List, api.ErrClash}, {ask.List, api.ErrMissing}, {ask.Stat, 0}, {ask.Stat, api.ErrMissing}, {ask.Delete, 0}, {ask.Delete, api.ErrMissing},
		{ask.Get, 0}, {ask.Get, api.ErrMissing}, {ask.Get, api.ErrEmpty}, {ask.Pull, 0}, {ask.Pull, api.ErrRange}, {ask.Pull, api.ErrMissing}, {ask.Close, 0}, {ask.Close, api.ErrMissing},
	} {
		if ends[want] < 5 {
			t.Errorf("%+v was hardly tried: %d times", want, ends[want])
		}
	}
}

// answer is what was answered to an ask.
type answer struct {
	r   serve.Reply
	err error
}

// bare is a tree without the numbers of blocks, which may be others.
func bare(t tree.Tree) tree.Tree {
	for i := range t.Rows {
		t.Rows[i].Content.Ids = nil
	}
	return t
}

// P21.7: each tenant is answered what it would be alone, as long as no error is global.
func TestAlone(t *testing.T) {
	r := rand.New(rand.NewSource(7))
	compared := 0
	for range 200 {
		limits := []api.Limits{wide, anyLimits(r), anyLimits(r), wide}
		x, c := newBox(t, 60, limits...), newClient(r)
		var asked []ask.Ask
		var answers []answer
		for range 150 {
			a := c.next(len(limits))
			got, err := x.ask(a)
			if serve.Global(err) {
				break
			}
			c.learn(a, got, err)
			asked, answers = append(asked, a), append(answers, answer{got, err})
			compared++
		}
		together := newBox(t, 60, limits...)
		for _, a := range asked {
			together.ask(a)
		}
		for n := range limits {
			alone := newBox(t, 60, limits...)
			for i, a := range asked {
				if a.Kind != ask.Tick && a.Tenant != n {
					continue
				}
				if got, err := alone.ask(a); !alike(got, answers[i].r) || !reflect.DeepEqual(err, answers[i].err) {
					t.Fatalf("%+v: alone %+v %v, not %+v", a, got, err, answers[i])
				}
			}
			if !reflect.DeepEqual(bare(alone.s.Tree(n)), bare(together.s.Tree(n))) || alone.s.Ledger(n) != together.s.Ledger(n) || alone.s.Staged(n) != together.s.Staged(n) {
				t.Fatalf("the tenant %d has another tree alone", n)
			}
		}
	}
	if compared < 5000 {
		t.Errorf("only %d steps were compared", compared)
	}
}

// P21.6: with few blocks, too, and in the end all of them but those of what is published are free.
func TestFewBlocks(t *testing.T) {
	r := rand.New(rand.NewSource(6))
	global := 0
	for range 150 {
		limits := []api.Limits{wide, anyLimits(r), wide}
		x, c := newBox(t, r.Intn(12), limits...), newClient(r)
		for range 200 {
			a := c.next(len(limits))
			was := x.state()
			got, err := x.ask(a)
			c.learn(a, got, err)
			if serve.Global(err) {
				global++
			}
			for n := range limits {
				before := was[3+3*n].(tree.Tree)
				if tells := a.Kind == ask.Commit || a.Kind == ask.Delete; (!tells || err != nil || a.Tenant != n) && !reflect.DeepEqual(x.s.Tree(n), before) {
					t.Fatalf("%+v: the tree of %d has changed", a, n)
				}
			}
		}
		x.tick(8)
		if _, uploads, downloads := x.s.Free(); uploads != 0 || downloads != 0 {
			t.Fatalf("%d uploads and %d downloads wait on", uploads, downloads)
		}
		for n := range limits {
			x.want(api.OK, ask.Ask{Kind: ask.Delete, Tenant: n, Path: "."})
		}
		x.free(x.blocks, 0, 0)
	}
	if global < 100 {
		t.Errorf("only %d times was there no room", global)
	}
}

// Rule 4: there is no chance in what is answered, the numbers of blocks neither.
func TestNoChance(t *testing.T) {
	once := func() []any {
		r := rand.New(rand.NewSource(4))
		limits := []api.Limits{wide, wide, wide}
		x, c := newBox(t, 30, limits...), newClient(r)
		var all []any
		for range 300 {
			a := c.next(len(limits))
			got, err := x.ask(a)
			c.learn(a, got, err)
			all = append(all, got, err, x.state())
		}
		return all
	}
	want := once()
	for range 5 {
		if !reflect.DeepEqual(once(), want) {
			t.Fatal("the same asks are answered in two ways")
		}
	}
}

// P1: whatever is asked ends, and all is as it must be behind it.
func TestAnything(t *testing.T) {
	r := rand.New(rand.NewSource(1))
	numbers := []int{0, 1, 1, 1, 2, 3, 512, -1, 8, 65536, 65537, 1 << 20, 1<<20 + 1, math.MaxInt, math.MinInt}
	number := func() int { return numbers[r.Intn(len(numbers))] }
	paths := []string{"", ".", "a", "d", "/", "..", "\x00", "\xff", "a//b", strings.Repeat("a", 300), strings.Repeat("a/", 3000)}
	for range 300 {
		x := newBox(t, r.Intn(10), wide, anyLimits(r))
		for range 60 {
			a := ask.Ask{Kind: r.Intn(14) - 1, Tenant: r.Intn(2), Number: number(), Count: number(), Path: paths[r.Intn(len(paths))]}
			if r.Intn(10) == 0 {
				a.Kind, a.Tenant = number(), number()
			}
			switch r.Intn(4) {
			case 0:
				a.Data = files("a", text(r.Intn(100)))
			case 1:
				a.Data = anyEntry(r, nil)
			case 2:
				a.Data = make([]byte, r.Intn(1200))
				r.Read(a.Data)
			}
			x.ask(a)
		}
	}
}

// FuzzLines asks lines, one behind the other.
func FuzzLines(f *testing.F) {
	f.Add("open 0\nsend 0 1 00\ncommit 0 1\nlist 0 .\nget 0 .\npull 0 1 512\nclose 0 1\ntick 8")
	f.Add("open 1\nabort 1 1\nstat 1 a\ndelete 1 .\nnix\n")
	f.Fuzz(func(t *testing.T, lines string) {
		x := newBox(t, 4, wide, wide)
		for line := range strings.SplitSeq(lines, "\n") {
			r, err := x.s.Line(line)
			if err != nil && !reflect.DeepEqual(r, serve.Reply{}) {
				t.Errorf("%q: beside %v: %+v", line, err, r)
			}
			x.sound()
		}
	})
}
