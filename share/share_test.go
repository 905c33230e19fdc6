package share_test

import (
	"bytes"
	"cmp"
	"fmt"
	"maps"
	"math"
	"math/rand/v2"
	"reflect"
	"slices"
	"testing"

	"cambium/api"
	"cambium/drive"
	"cambium/edit"
	"cambium/find"
	"cambium/lent"
	"cambium/pool"
	"cambium/share"
)

// least and greatest are the keys at the ends of all that may be.
var (
	least    = api.Key{}
	greatest = api.Key{Obj: api.MaxNumber, Kind: 255, Off: api.MaxNumber}
)

// ranked is the key of a rank from 1 on: keys rise as ranks do, in each of their numbers.
func ranked(rank int) api.Key {
	return api.Key{Obj: rank / 12, Kind: 2 + rank/4%3, Off: rank % 4 * 5}
}

// dataKey is of the only kind whose values reference blocks.
func dataKey(n int) api.Key { return api.Key{Obj: 7, Kind: api.ItemData, Off: n} }

func compared(a, b api.Key) int {
	return cmp.Or(cmp.Compare(a.Obj, b.Obj), cmp.Compare(a.Kind, b.Kind), cmp.Compare(a.Off, b.Off))
}

// names tells which block a value references, as the chapters say it.
func names(k api.Key, v string) (int, bool) {
	if k.Kind != 3 || len(v) != 3 || v[0] != 1 {
		return 0, false
	}
	return int(v[1])<<8 + int(v[2]), true
}

func naming(a int) string { return string([]byte{1, byte(a >> 8), byte(a)}) }

// plain is what a tree has.
type plain map[api.Key]string

func (l plain) keys() []api.Key { return slices.SortedFunc(maps.Keys(l), compared) }

func (l plain) items() []api.Item {
	var items []api.Item
	for _, k := range l.keys() {
		items = append(items, api.Item{Key: k, Value: []byte(l[k])})
	}
	return items
}

// lacking is what others lack, or have otherwise.
func (l plain) lacking(others plain) plain {
	some := plain{}
	for k, v := range l {
		if other, is := others[k]; !is || other != v {
			some[k] = v
		}
	}
	return some
}

func sameItems(a, b []api.Item) bool {
	return slices.EqualFunc(a, b, func(x, y api.Item) bool { return x.Key == y.Key && bytes.Equal(x.Value, y.Value) })
}

// tree is a root that somebody holds, and what the tree should have.
type tree struct {
	root int
	row  plain
}

// bench is a pool, and all that should be in it.
type bench struct {
	what    string
	p       *pool.Pool
	d       *drive.Drive
	trees   []*tree
	pending []int          // nodes of which the test is still to remove a reference
	own     map[int]int    // how often the test itself references a block that is no node
	data    map[int]string // what is in the blocks of bytes
}

func made(t *testing.T, sectors int) *bench {
	t.Helper()
	d, e := drive.New(sectors)
	if e != api.OK {
		t.Fatalf("New: %d", e)
	}
	p, e := pool.Format(d)
	if e != api.OK {
		t.Fatalf("Format: %d", e)
	}
	return &bench{what: "new", p: p, d: d, own: map[int]int{}, data: map[int]string{}}
}

// clone has the disk in common with the bench: what changes that is for one of them alone.
func (b *bench) clone() *bench {
	c := *b
	c.p, c.own, c.data, c.trees, c.pending = b.p.Clone(), maps.Clone(b.own), maps.Clone(b.data), nil, slices.Clone(b.pending)
	for _, tr := range b.trees {
		c.trees = append(c.trees, &tree{tr.root, maps.Clone(tr.row)})
	}
	return &c
}

// also is a clone in another state.
func (b *bench) also(what ...any) *bench {
	c := b.clone()
	c.what += ", " + fmt.Sprint(what...)
	return c
}

func (b *bench) commits(t *testing.T) {
	t.Helper()
	if e := b.p.Commit(); e != api.OK {
		t.Fatalf("%s: Commit: %d", b.what, e)
	}
}

func (b *bench) remounts(t *testing.T) {
	t.Helper()
	b.commits(t)
	p, e := pool.Mount(b.d)
	if e != api.OK {
		t.Fatalf("%s: Mount: %d", b.what, e)
	}
	b.p = p
}

func (b *bench) refs(t *testing.T, a int) {
	t.Helper()
	if e := b.p.Ref(a); e != api.OK {
		t.Fatalf("%s: Ref(%d): %d", b.what, a, e)
	}
}

func (b *bench) unrefs(t *testing.T, a int) {
	t.Helper()
	if _, e := b.p.Unref(a); e != api.OK {
		t.Fatalf("%s: Unref(%d): %d", b.what, a, e)
	}
}

func (b *bench) node(t *testing.T, a int) api.Node {
	t.Helper()
	n, e := b.p.Node(a)
	if e != api.OK {
		t.Fatalf("%s: Node(%d): %d", b.what, a, e)
	}
	return n
}

func (b *bench) putsNode(t *testing.T, n api.Node) int {
	t.Helper()
	a, e := b.p.PutNode(n)
	if e != api.OK {
		t.Fatalf("%s: PutNode(%+v): %d", b.what, n, e)
	}
	return a
}

// putsData lays down a block of bytes, with one reference, which is the caller's.
func (b *bench) putsData(t *testing.T, v string) int {
	t.Helper()
	a, e := b.p.PutBytes(api.BlockData, []byte(v))
	if e != api.OK {
		t.Fatalf("%s: PutBytes: %d", b.what, e)
	}
	b.data[a] = v
	return a
}

// counts are those of all sectors.
func (b *bench) counts() []int {
	var l []int
	for a := range b.d.Size() {
		l = append(l, b.p.Count(a))
	}
	return l
}

// content is what is in a block, whichever it is.
func (b *bench) content(a int) string {
	n, e := b.p.Node(a)
	v, f := b.p.Bytes(a, api.BlockData)
	return fmt.Sprint(n, e, v, f)
}

// picture is all that can be seen of a pool and its disk.
func (b *bench) picture() []any {
	l := []any{b.p.Super(), b.p.Free(), b.d.Steps(), b.d.Cached(), b.d.On()}
	for a := range b.d.Size() {
		v, e := b.d.Read(a)
		l = append(l, b.p.Count(a), b.p.Fresh(a), b.content(a), v, e)
	}
	return l
}

// unchanged asks for a pool and its disk to be what they were after f.
func (b *bench) unchanged(t *testing.T, f func()) {
	t.Helper()
	was := b.picture()
	f()
	if !reflect.DeepEqual(b.picture(), was) {
		t.Errorf("%s: the pool is not what it was", b.what)
	}
}

// reached tells how often each block is referenced: by the holders, by the test, and by each node that is reached from there.
func (b *bench) reached(t *testing.T) map[int]int {
	t.Helper()
	refs, seen := maps.Clone(b.own), map[int]bool{}
	var reach func(a int)
	reach = func(a int) {
		t.Helper()
		refs[a]++
		if seen[a] {
			return
		}
		seen[a] = true
		n := b.node(t, a)
		for _, x := range n.Kids {
			reach(x.Addr)
		}
		for _, x := range n.Items {
			if to, is := names(x.Key, string(x.Value)); is {
				refs[to]++
				b.holdsData(t, to)
			}
		}
	}
	for _, tr := range b.trees {
		if tr.root != 0 {
			reach(tr.root)
		}
	}
	for _, a := range b.pending {
		reach(a)
	}
	return refs
}

func (b *bench) holdsData(t *testing.T, a int) {
	t.Helper()
	if v, e := b.p.Bytes(a, api.BlockData); string(v) != b.data[a] || e != api.OK {
		t.Fatalf("%s: Bytes(%d): %q, %d, not %q", b.what, a, v, e, b.data[a])
	}
}

// sound holds a whole pool against what should be in it.
func (b *bench) sound(t *testing.T) {
	t.Helper()
	refs := b.reached(t)
	for a := -1; a <= b.d.Size(); a++ {
		if b.p.Count(a) != refs[a] {
			t.Fatalf("%s: block %d has the count %d, not %d", b.what, a, b.p.Count(a), refs[a])
		}
	}
	for i, tr := range b.trees {
		if l, e := find.Scan(b.p, tr.root, least, greatest, math.MaxInt); !sameItems(l, tr.row.items()) || e != api.OK {
			t.Fatalf("%s: tree %d has %d items, %d, not %d", b.what, i, len(l), e, len(tr.row))
		}
	}
}

// isEmpty asks for all blocks to be free, at once or from the next commit on.
func (b *bench) isEmpty(t *testing.T) {
	t.Helper()
	b.sound(t)
	if len(b.trees) > 0 || len(b.own) > 0 {
		t.Fatalf("%s: there is something left", b.what)
	}
	b.commits(t)
	if free := made(t, b.d.Size()).p.Free(); b.p.Free() != free {
		t.Errorf("%s: %d are free, not %d", b.what, b.p.Free(), free)
	}
}

// planter lays trees down.
type planter struct {
	b     *bench
	r     *rand.Rand
	rank  int
	row   plain
	named []int // blocks that values reference
}

// plant lays down a tree whose root has so many kids, and so on, down to a leaf's items. There is a key between each two of its keys.
func (g *planter) plant(t *testing.T, shape []int) api.Kid {
	t.Helper()
	n := api.Node{Level: len(shape) - 1}
	for range shape[0] {
		if n.Level > 0 {
			n.Kids = append(n.Kids, g.plant(t, shape[1:]))
			continue
		}
		g.rank += 2
		k := ranked(g.rank)
		v := g.value(t, k)
		g.row[k] = v
		n.Items = append(n.Items, api.Item{Key: k, Value: []byte(v)})
	}
	return api.Kid{Key: leastOf(n), Addr: g.b.putsNode(t, n)}
}

// value is any that may be: some reference a block, each of them several times, and some look as if they did.
func (g *planter) value(t *testing.T, k api.Key) string {
	t.Helper()
	switch g.r.IntN(4) {
	case 0, 1:
		if k.Kind == api.ItemData {
			return g.naming(t)
		}
		return naming(4 + g.r.IntN(9)) // of a kind that references nothing
	case 2:
		return []string{"", "\x01", "\x01\x00", "\x01\x00\x06\x00", "\x00\x00\x06", "\x02\x00\x06", "\x01\x00\x00\x06"}[g.r.IntN(7)]
	}
	v := make([]byte, g.r.IntN(29))
	for i := range v {
		v[i] = byte(2 + g.r.IntN(254))
	}
	return string(v)
}

func (g *planter) naming(t *testing.T) string {
	t.Helper()
	if len(g.named) < 3 {
		a := g.b.putsData(t, fmt.Sprint("block ", len(g.named)))
		g.named = append(g.named, a)
		return naming(a)
	}
	a := g.named[g.r.IntN(3)]
	g.b.refs(t, a)
	return naming(a)
}

func leastOf(n api.Node) api.Key {
	if n.Level == 0 {
		return n.Items[0].Key
	}
	return n.Kids[0].Key
}

// plants lays down one more tree, held once, whose keys are behind a rank.
func (b *bench) plants(t *testing.T, shape []int, seed uint64, rank int) *tree {
	t.Helper()
	g := &planter{b: b, r: rand.New(rand.NewPCG(12, seed)), rank: rank, row: plain{}}
	tr := &tree{g.plant(t, shape).Addr, g.row}
	b.trees = append(b.trees, tr)
	return tr
}

func planted(t *testing.T, shape []int, seed uint64) *bench {
	t.Helper()
	nodes := 1
	for i := len(shape) - 2; i >= 0; i-- {
		nodes = nodes*shape[i] + 1
	}
	b := made(t, min(2048, 64+nodes*8))
	b.plants(t, shape, seed, 0)
	b.what = fmt.Sprint(shape, " new")
	b.sound(t)
	return b
}

// renewed lays the upper nodes of a tree down anew, which alone has them.
func (b *bench) renewed(t *testing.T, a, depth int) int {
	t.Helper()
	if depth == 0 {
		return a
	}
	n := b.node(t, a)
	for i, x := range n.Kids {
		n.Kids[i].Addr = b.renewed(t, x.Addr, depth-1)
	}
	b.unrefs(t, a)
	return b.putsNode(t, n)
}

// states are those of a tree that is new, committed, mounted, and new above nodes that were mounted. Each has a disk of its own.
func states(t *testing.T, shape []int, seed uint64, f func(b *bench)) {
	t.Helper()
	for i, what := range []string{"new", "committed", "mounted", "new above the mounted"} {
		b := planted(t, shape, seed)
		b.what = fmt.Sprint(shape, " ", what)
		switch i {
		case 1:
			b.commits(t)
		case 2, 3:
			b.remounts(t)
		}
		if i == 3 {
			b.trees[0].root = b.renewed(t, b.trees[0].root, (len(shape)+1)/2)
			b.sound(t)
		}
		f(b)
	}
}

// Shapes: one leaf; the least and the greatest numbers; each level that there may be.
var (
	little = [][]int{{1}, {3}, {6}, {2, 1}, {2, 3}, {3, 3}, {2, 2, 1}, {2, 3, 2}, {2, 2, 2, 1}}
	great  = [][]int{{12, 6}, {2, 6, 3}, {3, 6, 3}, {2, 12, 2}, {2, 6, 6, 3}, {2, 2, 2, 2, 2, 2, 2, 1}}
)

func everywhere(t *testing.T, shapes [][]int, f func(t *testing.T, b *bench)) {
	t.Helper()
	t.Parallel()
	for i, shape := range shapes {
		t.Run(fmt.Sprint(shape), func(t *testing.T) {
			t.Parallel()
			states(t, shape, uint64(i), func(b *bench) { f(t, b) })
		})
	}
}

// nodes are all of a tree's, each ahead of those below it.
func (b *bench) nodes(t *testing.T, root int) []int {
	t.Helper()
	if root == 0 {
		return nil
	}
	l := []int{root}
	for _, x := range b.node(t, root).Kids {
		l = append(l, b.nodes(t, x.Addr)...)
	}
	return l
}

// sampled are some of a list, the first and the last among them.
func sampled[T any](l []T, most int) []T {
	if len(l) <= most {
		return l
	}
	var some []T
	for i := range most {
		some = append(some, l[i*(len(l)-1)/(most-1)])
	}
	return some
}

// The calls, each held against what it should do.

func (b *bench) holds(t *testing.T, i int) *tree {
	t.Helper()
	tr := b.trees[i]
	was := b.counts()
	if e := share.Hold(b.p, tr.root); e != api.OK {
		t.Fatalf("%s: Hold(%d): %d", b.what, tr.root, e)
	}
	if tr.root != 0 {
		was[tr.root]++
	}
	if !slices.Equal(b.counts(), was) {
		t.Fatalf("%s: Hold(%d): the counts are %v, not %v", b.what, tr.root, b.counts(), was)
	}
	other := &tree{tr.root, maps.Clone(tr.row)}
	b.trees = append(b.trees, other)
	return other
}

func (b *bench) drops(t *testing.T, i int) {
	t.Helper()
	if e := share.Drop(b.p, b.trees[i].root); e != api.OK {
		t.Fatalf("%s: Drop(%d): %d", b.what, b.trees[i].root, e)
	}
	b.trees = slices.Delete(b.trees, i, i+1)
}

// steps takes a reference off a node, and answers what the caller is still to step.
func (b *bench) steps(t *testing.T, a int) []int {
	t.Helper()
	was, want := b.counts(), []int(nil)
	if was[a] == 1 {
		n := b.node(t, a)
		for _, x := range n.Kids {
			want = append(want, x.Addr)
		}
		for _, x := range n.Items {
			if to, is := names(x.Key, string(x.Value)); is {
				was[to]--
			}
		}
	}
	was[a]--
	l, e := share.Step(b.p, a)
	if !slices.Equal(l, want) || e != api.OK {
		t.Fatalf("%s: Step(%d): %v, %d, not %v", b.what, a, l, e, want)
	}
	if !slices.Equal(b.counts(), was) {
		t.Fatalf("%s: Step(%d): the counts are %v, not %v", b.what, a, b.counts(), was)
	}
	return l
}

// differs holds Diff against the plain rows, in both directions.
func (b *bench) differs(t *testing.T, x, y *tree) {
	t.Helper()
	for range 2 {
		gone, come, e := share.Diff(b.p, x.root, y.root)
		if wg, wc := x.row.lacking(y.row).items(), y.row.lacking(x.row).items(); !sameItems(gone, wg) || !sameItems(come, wc) || e != api.OK {
			t.Fatalf("%s: Diff(%d, %d): %v, %v, %d, not %v, %v", b.what, x.root, y.root, gone, come, e, wg, wc)
		}
		x, y = y, x
	}
}

// The refusals ask a call for an error, and for nothing beside it.

func (b *bench) refusesHold(t *testing.T, root int, want api.Errno) {
	t.Helper()
	if e := share.Hold(b.p, root); e != want {
		t.Errorf("%s: Hold(%d): %d, not %d", b.what, root, e, want)
	}
}

func (b *bench) refusesStep(t *testing.T, a int, want api.Errno) {
	t.Helper()
	if l, e := share.Step(b.p, a); l != nil || e != want {
		t.Errorf("%s: Step(%d): %v, %d, not %d", b.what, a, l, e, want)
	}
}

func (b *bench) refusesDrop(t *testing.T, root int, want api.Errno) {
	t.Helper()
	if e := share.Drop(b.p, root); e != want {
		t.Errorf("%s: Drop(%d): %d, not %d", b.what, root, e, want)
	}
}

// refusesDiff does so in both directions.
func (b *bench) refusesDiff(t *testing.T, x, y int, want api.Errno) {
	t.Helper()
	for range 2 {
		if gone, come, e := share.Diff(b.p, x, y); gone != nil || come != nil || e != want {
			t.Errorf("%s: Diff(%d, %d): %v, %v, %d, not %d", b.what, x, y, gone, come, e, want)
		}
		x, y = y, x
	}
}

// twin is another tree with the same items: its upper nodes, so many levels of them, are copies; what is below, both have.
func (b *bench) twin(t *testing.T, i, depth int) *tree {
	t.Helper()
	tr := &tree{b.copied(t, b.trees[i].root, depth), maps.Clone(b.trees[i].row)}
	b.trees = append(b.trees, tr)
	return tr
}

func (b *bench) copied(t *testing.T, a, depth int) int {
	t.Helper()
	if depth == 0 {
		b.refs(t, a)
		return a
	}
	n := b.node(t, a)
	for i, x := range n.Kids {
		n.Kids[i].Addr = b.copied(t, x.Addr, depth-1)
	}
	for _, x := range n.Items {
		if to, is := names(x.Key, string(x.Value)); is {
			b.refs(t, to)
		}
	}
	return b.putsNode(t, n)
}

// branch is a tree that is a part of another one.
func (b *bench) branch(t *testing.T, a int) *tree {
	t.Helper()
	l, e := find.Scan(b.p, a, least, greatest, math.MaxInt)
	if e != api.OK {
		t.Fatalf("%s: Scan(%d): %d", b.what, a, e)
	}
	tr := &tree{a, plain{}}
	for _, x := range l {
		tr.row[x.Key] = string(x.Value)
	}
	b.refs(t, a)
	b.trees = append(b.trees, tr)
	return tr
}

// family lets there be trees that share nodes on each level with the first one: held, copied down to any level, and parts.
func (b *bench) family(t *testing.T) {
	t.Helper()
	b.holds(t, 0)
	n := b.node(t, b.trees[0].root)
	for depth := 1; depth <= n.Level+1; depth++ {
		b.twin(t, 0, depth)
	}
	for a := b.trees[0].root; n.Level > 0; n = b.node(t, a) {
		a = n.Kids[len(n.Kids)-1].Addr
		b.branch(t, a)
	}
	b.holds(t, 2)
	b.sound(t)
}

// The chapter's example.

func TestTheExample(t *testing.T) {
	b := made(t, 32)
	nothing := func() {
		b.refusesHold(t, 0, api.OK)
		b.refusesDrop(t, 0, api.OK)
		b.refusesDiff(t, 0, 0, api.OK)
	}
	b.unchanged(t, nothing)
	b.plants(t, []int{2, 3}, 1, 0)
	b.unchanged(t, nothing)
	b.remounts(t)
	off(b.d)
	b.unchanged(t, nothing)
}

// P12.1

func TestHoldOfARoot(t *testing.T) {
	everywhere(t, little, func(t *testing.T, b *bench) {
		c := b.clone()
		for n := 1; n < 5; n++ {
			if got := c.p.Count(b.trees[0].root); got != n {
				t.Fatalf("%s: the count is %d, not %d", c.what, got, n)
			}
			free, steps := c.p.Free(), c.d.Steps()
			c.holds(t, 0)
			c.sound(t)
			if c.p.Free() != free || c.d.Steps() != steps {
				t.Errorf("%s: %d are free, not %d; %d steps", c.what, c.p.Free(), free, c.d.Steps()-steps)
			}
		}
		b.sound(t)
	})
}

// Hold is pool.Ref: of any block, with its errors, and without a look into it.
func TestHoldIsRef(t *testing.T) {
	everywhere(t, little, func(t *testing.T, b *bench) {
		data := b.putsData(t, "ab")
		off(b.d)
		for a := -3; a < b.d.Size()+3; a++ {
			c, q := b.clone(), b.clone()
			want := q.p.Ref(a)
			if a == 0 {
				want = api.OK
			}
			if e := share.Hold(c.p, a); e != want || !slices.Equal(c.counts(), q.counts()) {
				t.Fatalf("%s: Hold(%d): %d, not %d; the counts are %v, not %v", b.what, a, e, want, c.counts(), q.counts())
			}
		}
		if b.p.Count(data) != 1 {
			t.Errorf("%s: the count is %d", b.what, b.p.Count(data))
		}
	})
}

// wrong are addresses of no block, where one is used and one was let go.
func wrong(sectors, used, gone int) []int {
	return []int{math.MinInt, -sectors, -2, -1, 1, 2, 3, gone, sectors - 1, sectors, sectors + 1, 2048, 2049, 65536 + used, 1<<32 + used, math.MaxInt}
}

func TestWhatIsNotCounted(t *testing.T) {
	for _, sectors := range []int{32, 119, 2048} {
		b := made(t, sectors)
		b.plants(t, []int{2, 3}, 1, 0)
		root := b.trees[0].root
		gone := b.putsNode(t, api.Node{Items: []api.Item{{Key: ranked(5)}}})
		b.unrefs(t, gone)
		for range 3 {
			b.unchanged(t, func() {
				for _, a := range wrong(sectors, root, gone) {
					b.refusesHold(t, a, api.ErrArg)
					b.refusesStep(t, a, api.ErrArg)
					b.refusesDrop(t, a, api.ErrArg)
					b.refusesDiff(t, a, root, api.ErrArg)
					b.refusesDiff(t, a, 0, api.ErrArg)
					b.refusesDiff(t, a, a, api.ErrArg)
				}
				b.refusesStep(t, 0, api.ErrArg)
			})
			b.sound(t)
			b.remounts(t)
		}
		off(b.d)
		for _, a := range wrong(sectors, root, gone) {
			b.refusesHold(t, a, api.ErrArg)
			b.refusesStep(t, a, api.ErrArg)
			b.refusesDrop(t, a, api.ErrArg)
			b.refusesDiff(t, a, 0, api.ErrArg)
		}
	}
}

func TestTheGreatestCount(t *testing.T) {
	for _, shape := range [][]int{{3}, {2, 3}, {2, 2, 2}} {
		states(t, shape, 1, func(b *bench) {
			root := b.trees[0].root
			for n := 1; n < api.MaxCount; n++ {
				if e := share.Hold(b.p, root); e != api.OK {
					t.Fatalf("%s: Hold the %d. time: %d", b.what, n, e)
				}
			}
			b.unchanged(t, func() { b.refusesHold(t, root, api.ErrLong) })
			b.refusesDrop(t, root, api.OK)
			b.refusesHold(t, root, api.OK)
			b.refusesHold(t, root, api.ErrLong)
			for range api.MaxCount - 1 {
				b.refusesStep(t, root, api.OK)
			}
			b.sound(t)
			b.drops(t, 0)
			b.isEmpty(t)
		})
	}
}

// P12.2

// orders are those in which what is left may be stepped.
func orders(seed uint64) map[string]func(n int) int {
	r := rand.New(rand.NewPCG(12, seed))
	return map[string]func(n int) int{
		"last first":  func(n int) int { return n - 1 },
		"first first": func(int) int { return 0 },
		"any":         func(n int) int { return r.IntN(n) },
	}
}

// dissolves drops the first tree step by step.
func (b *bench) dissolves(t *testing.T, pick func(n int) int) {
	t.Helper()
	b.pending = []int{b.trees[0].root}
	b.trees = b.trees[1:]
	for n := 0; len(b.pending) > 0; n++ {
		i := pick(len(b.pending))
		a := b.pending[i]
		b.pending = append(slices.Delete(b.pending, i, i+1), b.steps(t, a)...)
		if n%7 < 2 || len(b.pending) < 3 {
			b.sound(t)
		}
	}
}

// In whichever order a tree is dropped step by step, it comes to the same as dropped at once.
func TestStepByStep(t *testing.T) {
	everywhere(t, slices.Concat(little, great), func(t *testing.T, b *bench) {
		for _, related := range []bool{false, true} {
			b := b.clone()
			if related {
				b.family(t)
				b.what += ", with a family"
			}
			at := b.clone()
			at.drops(t, 0)
			at.sound(t)
			want := at.picture()
			for how, pick := range orders(1) {
				c := b.also(how)
				c.dissolves(t, pick)
				c.sound(t)
				if !reflect.DeepEqual(c.picture(), want) {
					t.Fatalf("%s: the pool is another than that of a tree dropped at once", c.what)
				}
			}
		}
	})
}

// All of a family go, in many orders; each time the others have what they had, and all is free in the end.
func TestDropsInAnyOrder(t *testing.T) {
	everywhere(t, slices.Concat(little, great[:4]), func(t *testing.T, b *bench) {
		b.family(t)
		for how, pick := range orders(2) {
			for i := range 4 {
				if how != "any" && i > 0 {
					continue
				}
				c := b.also("dropped ", how, " ", i)
				for len(c.trees) > 0 {
					c.drops(t, pick(len(c.trees)))
					c.sound(t)
				}
				if c.p.Free() == b.p.Free() {
					t.Errorf("%s: nothing more is free", c.what)
				}
			}
		}
		for len(b.trees) > 0 {
			b.drops(t, len(b.trees)/2)
			b.remounts(t)
			b.sound(t)
		}
		b.isEmpty(t)
	})
}

// permuted does f for each order of a list.
func permuted(l []int, f func([]int)) {
	var from func(i int)
	from = func(i int) {
		if i == len(l) {
			f(l)
			return
		}
		for j := i; j < len(l); j++ {
			l[i], l[j] = l[j], l[i]
			from(i + 1)
			l[i], l[j] = l[j], l[i]
		}
	}
	from(0)
}

func TestAllOrdersOfFive(t *testing.T) {
	for i, shape := range [][]int{{3}, {2, 1}, {2, 2, 2}} {
		states(t, shape, uint64(i), func(b *bench) {
			b.holds(t, 0)
			b.twin(t, 0, 1)
			b.twin(t, 2, len(shape))
			b.branch(t, b.nodes(t, b.trees[0].root)[len(shape)-1])
			permuted([]int{0, 1, 2, 3, 4}, func(l []int) {
				c := b.also(l)
				all := slices.Clone(c.trees)
				for _, i := range l {
					c.drops(t, slices.Index(c.trees, all[i]))
					c.sound(t)
				}
			})
		})
	}
}

// A step of a node that others still reference does no more than count: what the block holds it doesn't ask.
func TestStepOfANodeThatIsStillReferenced(t *testing.T) {
	everywhere(t, slices.Concat(little, great), func(t *testing.T, b *bench) {
		off(b.d)
		for _, a := range sampled(b.used(), 12) {
			c := b.clone()
			for n := 1; n < 4; n++ {
				for range n {
					c.refs(t, a)
				}
				for range n {
					counts := c.counts()
					counts[a]--
					c.refusesStep(t, a, api.OK)
					if !slices.Equal(c.counts(), counts) {
						t.Fatalf("%s: Step(%d): the counts are %v, not %v", c.what, a, c.counts(), counts)
					}
				}
				if c.p.Free() != b.p.Free() {
					t.Errorf("%s: %d are free, not %d", c.what, c.p.Free(), b.p.Free())
				}
			}
		}
	})
}

// used are the blocks that are counted.
func (b *bench) used() []int {
	var l []int
	for a, n := range b.counts() {
		if n > 0 {
			l = append(l, a)
		}
	}
	return l
}

// spoils turns a byte of a block on the disk while f runs.
func (b *bench) spoils(t *testing.T, a int, f func()) {
	t.Helper()
	at, mask := a*7%256, 1+a*3%255
	for i := range 2 {
		if e := b.d.Corrupt(a, at, mask); e != api.OK {
			t.Fatalf("%s: Corrupt(%d, %d, %d): %d", b.what, a, at, mask, e)
		}
		if i == 0 {
			f()
		}
	}
}

func off(d *drive.Drive) {
	d.Fuse(0)
	d.Flush()
}

func without(b *bench, f func()) {
	was := b.d.Clone()
	off(b.d)
	f()
	*b.d = *was
}

// unread does f for some of the first tree's nodes that are committed, while each can't be read.
func (b *bench) unread(t *testing.T, f func(a int, want api.Errno)) {
	t.Helper()
	l := slices.DeleteFunc(b.nodes(t, b.trees[0].root), b.p.Fresh)
	l = sampled(l, 14)
	for _, a := range l {
		b.spoils(t, a, func() { f(a, api.ErrIO) })
	}
	without(b, func() {
		for _, a := range l {
			f(a, api.ErrPower)
		}
	})
}

// A node whose last reference goes is read ahead of all, and if it can't be, all stays as it was.
func TestStepOfANodeThatCannotBeRead(t *testing.T) {
	everywhere(t, slices.Concat(little, great[:3]), func(t *testing.T, b *bench) {
		b.unread(t, func(a int, want api.Errno) {
			c := b.clone()
			counts, free := c.counts(), c.p.Free()
			for range 2 {
				c.refusesStep(t, a, want)
			}
			if !slices.Equal(c.counts(), counts) || c.p.Free() != free {
				t.Errorf("%s: Step(%d): the counts are %v, not %v", c.what, a, c.counts(), counts)
			}
			c.refs(t, a)
			c.refusesStep(t, a, api.OK)
			c.refusesStep(t, a, want)
		})
		b.sound(t)
	})
}

func TestStepOfANewNodeWithoutPower(t *testing.T) {
	everywhere(t, slices.Concat(little, great[:3]), func(t *testing.T, b *bench) {
		fresh := slices.DeleteFunc(b.nodes(t, b.trees[0].root), func(a int) bool { return !b.p.Fresh(a) })
		off(b.d)
		for _, a := range fresh {
			b.clone().steps(t, a)
		}
		for _, a := range fresh {
			b.steps(t, a)
		}
	})
}

func TestStepOfWhatIsNoNode(t *testing.T) {
	b := made(t, 64)
	data := b.putsData(t, "ab")
	log, e := b.p.PutBytes(api.BlockLog, []byte("cd"))
	if e != api.OK {
		t.Fatalf("PutBytes: %d", e)
	}
	for _, want := range []api.Errno{api.ErrArg, api.ErrIO} {
		for _, a := range []int{data, log} {
			b.unchanged(t, func() {
				b.refusesStep(t, a, want)
				b.refusesDrop(t, a, want)
				b.refusesDiff(t, a, 0, want)
				b.refusesDiff(t, a, a, want)
				b.refs(t, a)
				b.refusesStep(t, a, api.OK)
				b.refs(t, a)
				b.refusesDrop(t, a, api.OK)
			})
		}
		b.remounts(t)
	}
}

// leafNaming is a leaf whose values reference blocks, behind one that looks as if it did.
func (b *bench) leafNaming(t *testing.T, addrs ...int) *tree {
	t.Helper()
	row := plain{{Obj: 7, Kind: 2}: naming(30)}
	for i, a := range addrs {
		row[dataKey(i)] = naming(a)
	}
	return &tree{b.putsNode(t, api.Node{Items: row.items()}), row}
}

// The references of a leaf's items go with the leaf, and no sooner.
func TestALeafWhoseItemsReferenceBlocks(t *testing.T) {
	for _, committed := range []bool{false, true} {
		for mine := range 3 {
			b := made(t, 64)
			b.what = fmt.Sprint("mine ", mine, ", committed ", committed)
			one, two := b.putsData(t, "one"), b.putsData(t, "two")
			for _, a := range []int{one, one, two} {
				b.refs(t, a)
			}
			for range mine {
				b.refs(t, one)
				b.own[one]++
			}
			b.trees = append(b.trees, b.leafNaming(t, one, two, one, two, one))
			b.sound(t)
			if committed {
				b.remounts(t)
			}
			b.holds(t, 0)
			b.drops(t, 1)
			b.sound(t)
			c := b.clone()
			c.dissolves(t, orders(0)["last first"])
			c.sound(t)
			b.drops(t, 0)
			b.sound(t)
			if b.p.Count(one) != mine || b.p.Count(two) != 0 || !reflect.DeepEqual(b.picture(), c.picture()) {
				t.Errorf("%s: the counts are %d and %d", b.what, b.p.Count(one), b.p.Count(two))
			}
		}
	}
}

// Where a leaf references blocks oftener than they are counted, none can be let go, and neither can the leaf.
func TestALeafWhoseReferencesAreNotCounted(t *testing.T) {
	const one, two, leaf = 4, 5, 6
	for _, x := range []struct {
		ones, twos int // their counts
		named      []int
	}{
		{1, 1, []int{0}}, {1, 1, []int{1}}, {1, 1, []int{3}}, {1, 1, []int{7}}, {1, 1, []int{31}}, {1, 1, []int{32}}, {1, 1, []int{2047}}, {1, 1, []int{2048}}, {1, 1, []int{65535}},
		{1, 1, []int{leaf}}, {1, 1, []int{one, leaf, two}}, {1, 1, []int{leaf, leaf}},
		{1, 1, []int{one, one}}, {1, 1, []int{one, two, 0}}, {1, 1, []int{one, two, 31, one}}, {2, 1, []int{one, two, one, one}}, {2, 1, []int{two, one, two}}, {4, 4, []int{one, one, one, one, one}}, {4, 4, []int{two, two, two, two, two}},
	} {
		for _, committed := range []bool{false, true} {
			b := made(t, 32)
			b.putsData(t, "one")
			b.putsData(t, "two")
			for range x.ones - 1 {
				b.refs(t, one)
			}
			for range x.twos - 1 {
				b.refs(t, two)
			}
			if tr := b.leafNaming(t, x.named...); tr.root != leaf {
				t.Fatalf("the leaf is %d", tr.root)
			}
			if committed {
				b.remounts(t)
			}
			b.what = fmt.Sprintf("%+v, committed %v", x, committed)
			b.unchanged(t, func() { b.refusesStep(t, leaf, api.ErrArg) })
			b.refusesDrop(t, leaf, api.ErrArg)
		}
	}
}

// A tree of which a node can't be read can't be dropped, unless somebody else has the node too, or one above it.
func TestDropOfATreeThatCannotBeRead(t *testing.T) {
	everywhere(t, slices.Concat(little, great[:3]), func(t *testing.T, b *bench) {
		root := b.trees[0].root
		var left []*bench
		b.unread(t, func(a int, want api.Errno) {
			b.clone().refusesDrop(t, root, want)
			c := b.clone()
			c.refs(t, root)
			c.refusesDrop(t, root, api.OK)
			left = append(left, c)
			if want == api.ErrIO { // without power the others can't be read either
				c = b.clone()
				c.refs(t, a)
				c.refusesDrop(t, root, api.OK)
				c.trees, c.pending = nil, []int{a}
				left = append(left, c)
			}
		})
		for _, c := range left {
			c.sound(t)
		}
	})
}

func TestDropOfATreeWithoutANode(t *testing.T) {
	everywhere(t, slices.Concat(little, great[:3]), func(t *testing.T, b *bench) {
		for _, a := range sampled(b.nodes(t, b.trees[0].root), 14) {
			c := b.clone()
			c.unrefs(t, a)
			c.refusesDrop(t, c.trees[0].root, api.ErrArg)
		}
	})
}

// pair is an inner node of two kids.
func pair(level, a, b int) api.Node {
	return api.Node{Level: level, Kids: []api.Kid{{Key: ranked(1), Addr: a}, {Key: ranked(9), Addr: b}}}
}

// Blocks that name each other in a ring are no tree, and every call of them ends.
func TestRings(t *testing.T) {
	for level := 1; level < 8; level++ {
		b := made(t, 64)
		a := b.putsNode(t, pair(level, 1, 2))
		other := b.putsNode(t, pair(max(level-1, 1), a, a))
		for _, to := range []int{a, other} {
			for refs := range 2 {
				c := b.clone()
				c.what = fmt.Sprint("a ring of level ", level, " through ", to)
				c.p.SetNode(a, pair(level, to, to))
				if refs > 0 && to != a {
					c.refs(t, to)
				}
				c.unchanged(t, func() { c.refusesDiff(t, a, 0, api.ErrIO) })
				c.refusesDrop(t, a, api.ErrArg)
			}
		}
	}
}

// A ring through a whole disk.
func TestAGreatRing(t *testing.T) {
	for _, committed := range []bool{false, true} {
		b := made(t, 2048)
		leaf := b.putsNode(t, api.Node{Items: []api.Item{{Key: ranked(1)}}})
		first := b.putsNode(t, pair(3, leaf, leaf))
		a := first
		for b.p.Free() > 0 {
			a = b.putsNode(t, pair(3, a, leaf))
		}
		b.p.SetNode(first, pair(3, a, leaf))
		if committed {
			b.remounts(t)
		}
		b.refusesDiff(t, a, 0, api.ErrIO)
		b.refusesDrop(t, first, api.ErrArg)
	}
}

// P12.3

// none is a tree without items.
func none() *tree { return &tree{0, plain{}} }

func TestDiffOfATreeAndItself(t *testing.T) {
	everywhere(t, slices.Concat(little, great), func(t *testing.T, b *bench) {
		tr := b.trees[0]
		b.unchanged(t, func() {
			b.differs(t, tr, tr)
			b.differs(t, tr, none())
			b.differs(t, none(), none())
		})
	})
}

// Trees whose keys are the same with other values, lie between each other, or behind all of the other's.
func TestDiffOfTreesWithNothingInCommon(t *testing.T) {
	t.Parallel()
	b := made(t, 1024)
	for i, shape := range [][]int{{1}, {6}, {2, 3}, {2, 2, 1}, {12, 6}, {2, 6, 3}} {
		for j, rank := range []int{0, 1, 9, 500} {
			b.plants(t, shape, uint64(4*i+j), rank)
		}
	}
	for range 2 {
		b.sound(t)
		b.differsEach(t)
		b.remounts(t)
	}
}

// differsEach holds each tree against each other.
func (b *bench) differsEach(t *testing.T) {
	t.Helper()
	for i, x := range b.trees {
		for _, y := range append(b.trees[i:], none()) {
			b.differs(t, x, y)
		}
	}
}

// grows lays down a tree of a row, with about so many items in a leaf and so many kids in a node.
func (b *bench) grows(t *testing.T, row plain, perLeaf, perNode int) *tree {
	t.Helper()
	tr := &tree{0, row}
	b.trees = append(b.trees, tr)
	var kids []api.Kid
	items := row.items()
	leaves := (len(items) + perLeaf - 1) / perLeaf
	for i := range leaves {
		n := api.Node{Items: items[len(items)*i/leaves : len(items)*(i+1)/leaves]}
		kids = append(kids, api.Kid{Key: leastOf(n), Addr: b.putsNode(t, n)})
	}
	for level := 1; len(kids) > 1; level++ {
		many := max(1, len(kids)/perNode)
		var above []api.Kid
		for i := range many {
			n := api.Node{Level: level, Kids: kids[len(kids)*i/many : len(kids)*(i+1)/many]}
			above = append(above, api.Kid{Key: leastOf(n), Addr: b.putsNode(t, n)})
		}
		kids = above
	}
	if len(kids) > 0 {
		tr.root = kids[0].Addr
	}
	return tr
}

// forms are how many items are in a leaf, and how many kids in a node.
var forms = [][2]int{{6, 6}, {1, 2}, {2, 3}, {3, 2}}

// Of four keys each is missing or has one of two values, in a tree of any form.
func TestDiffOfAllLittleRows(t *testing.T) {
	t.Parallel()
	b := made(t, 2048)
	for i := range 81 {
		row := plain{}
		for j, rest := 0, i; j < 4; j, rest = j+1, rest/3 {
			if rest%3 > 0 {
				row[ranked(3+j*2)] = "xy"[:rest%3]
			}
		}
		for _, form := range forms[:3] {
			b.grows(t, row, form[0], form[1])
		}
	}
	b.sound(t)
	for i, x := range b.trees {
		for j := i; j < len(b.trees); j++ {
			if (i+j)%3 != 1 {
				b.differs(t, x, b.trees[j])
			}
		}
	}
}

// The same items, or nearly the same, in trees of unlike forms and heights.
func TestDiffOfUnlikeForms(t *testing.T) {
	t.Parallel()
	for _, n := range []int{1, 2, 5, 6, 7, 13, 40, 100} {
		b := made(t, 2048)
		b.what = fmt.Sprint(n, " items")
		r := rand.New(rand.NewPCG(12, uint64(n)))
		row := plain{}
		for i := range n {
			row[ranked(10+3*i)] = fmt.Sprint(i)
		}
		for range 3 {
			for _, form := range forms {
				b.grows(t, maps.Clone(row), form[0], form[1])
			}
			for range 1 + n/10 {
				k := ranked(r.IntN(3*n + 20))
				row[k] = "changed"
				delete(row, ranked(10+3*r.IntN(n)))
			}
		}
		heights := map[int]bool{}
		for _, tr := range b.trees {
			h, _ := find.Height(b.p, tr.root)
			heights[h] = true
		}
		if n > 7 && len(heights) < 3 {
			t.Errorf("%s: the heights are %v", b.what, heights)
		}
		b.differsEach(t)
		b.remounts(t)
		b.differsEach(t)
	}
}

func TestDiffOfAllThatShare(t *testing.T) {
	everywhere(t, slices.Concat(little, great), func(t *testing.T, b *bench) {
		b.family(t)
		b.differsEach(t)
		if len(b.trees[0].row) > 100 {
			return
		}
		b.remounts(t)
		b.differsEach(t)
	})
}

// puts and deletes change a tree that is held here, and no other.

func (b *bench) puts(t *testing.T, tr *tree, k api.Key, v string) {
	t.Helper()
	if a, is := names(k, v); is {
		b.refs(t, a)
	}
	root, e := edit.Put(b.p, tr.root, k, []byte(v))
	if e != api.OK {
		t.Fatalf("%s: Put(%d, %v, %x): %d", b.what, tr.root, k, v, e)
	}
	tr.root, tr.row[k] = root, v
}

func (b *bench) deletes(t *testing.T, tr *tree, k api.Key) {
	t.Helper()
	root, e := edit.Delete(b.p, tr.root, k)
	if e != api.OK {
		t.Fatalf("%s: Delete(%d, %v): %d", b.what, tr.root, k, e)
	}
	tr.root = root
	delete(tr.row, k)
}

// behind is the key right behind one that was planted, which the tree does not have.
func behind(k api.Key) api.Key {
	k.Off += 5
	return k
}

// balanced are shapes of which a tree may be changed.
var balanced = [][]int{{1}, {3}, {6}, {2, 3}, {3, 3}, {4, 6}, {12, 6}, {2, 6, 3}, {3, 6, 3}, {2, 6, 6, 3}}

// A copy is changed in one place after another, at the ends and in the middle; each is held against the first tree, and against what it was in between.
func TestDiffOfACopyThatWasChanged(t *testing.T) {
	everywhere(t, balanced, func(t *testing.T, b *bench) {
		first := b.trees[0]
		l := first.row.keys()
		copied := b.holds(t, 0)
		one := func(change func()) {
			t.Helper()
			was := b.holds(t, slices.Index(b.trees, copied))
			change()
			for _, x := range []*tree{first, was} {
				b.differs(t, x, copied)
			}
			b.drops(t, slices.Index(b.trees, was))
		}
		for i, k := range sampled(l, 9) {
			one(func() { b.puts(t, copied, k, first.row[k]) }) // the same value
			one(func() { b.puts(t, copied, k, "another") })
			one(func() { b.puts(t, copied, behind(k), "new") })
			one(func() { b.deletes(t, copied, k) })
			one(func() { b.puts(t, copied, k, first.row[k]) }) // as it was
			one(func() { b.puts(t, copied, k, first.row[k]+"\x00") })
			if i%3 == 1 {
				b.sound(t)
				b.remounts(t)
			}
		}
		one(func() { b.puts(t, copied, least, "") })
		one(func() { b.puts(t, copied, greatest, "") })
		for i, k := range copied.row.keys() { // lower and lower
			b.deletes(t, copied, k)
			if i%(1+len(l)/20) == 0 {
				b.differs(t, first, copied)
			}
		}
		b.differs(t, first, copied)
		b.sound(t)
	})
}

// A copy that grows and grows.
func TestDiffOfACopyThatIsHigher(t *testing.T) {
	everywhere(t, balanced[:5], func(t *testing.T, b *bench) {
		first, copied := b.trees[0], b.holds(t, 0)
		for i := range 60 {
			b.puts(t, copied, ranked(200+i*7%60), fmt.Sprint(i))
			if i%9 == 0 {
				b.differs(t, first, copied)
			}
		}
		b.differs(t, first, copied)
		h, _ := find.Height(b.p, first.root)
		if higher, e := find.Height(b.p, copied.root); higher <= h || e != api.OK {
			t.Errorf("%s: the heights are %d and %d", b.what, h, higher)
		}
	})
}

// Values are the same only if all their bytes are.
func TestDiffOfValues(t *testing.T) {
	b := made(t, 512)
	var l []string
	for n := range 29 {
		v := bytes.Repeat([]byte{7}, n)
		l = append(l, string(v))
		if n > 0 {
			for _, at := range []int{0, n / 2, n - 1} {
				w := bytes.Clone(v)
				w[at] = 8
				l = append(l, string(w))
			}
			v[n-1] = 0
			l = append(l, string(v))
		}
	}
	for i, v := range l {
		b.grows(t, plain{ranked(5): v, ranked(6): "same", ranked(7): l[len(l)-1-i]}, 1+i%2*5, 2)
	}
	b.sound(t)
	b.differsEach(t)
}

// Keys that differ in one number alone are others.
func TestDiffOfKeys(t *testing.T) {
	b := made(t, 512)
	for _, obj := range []int{0, 1, 256, api.MaxNumber} {
		for _, kind := range []int{0, 1, 255} {
			for _, at := range []int{0, 1, 256, api.MaxNumber} {
				b.grows(t, plain{{Obj: obj, Kind: kind, Off: at}: "same"}, 6, 6)
			}
		}
	}
	b.sound(t)
	b.differsEach(t)
}

// changed has a second tree, a copy of the first that was changed in a few places: what came has a value of what is gone.
func (b *bench) changed(t *testing.T) {
	t.Helper()
	copied := b.holds(t, 0)
	l := sampled(copied.row.keys(), 3)
	k, last := behind(l[len(l)/2]), l[len(l)-1]
	b.puts(t, copied, l[0], "another")
	v := copied.row[last]
	if _, is := names(k, v); is {
		v = "new" // of another kind it may name no block
	}
	b.puts(t, copied, k, v)
	b.deletes(t, copied, last)
	b.sound(t)
}

// Each node that only one of two trees has is read, and its error told; of one that both have it may be told.
func TestDiffOfTreesThatCannotBeRead(t *testing.T) {
	everywhere(t, balanced, func(t *testing.T, b *bench) {
		b.changed(t)
		for range 2 {
			x, y := b.trees[0], b.trees[1]
			nodes := [][]int{b.nodes(t, x.root), b.nodes(t, y.root)}
			for i, tr := range b.trees {
				for _, a := range sampled(nodes[i], 14) {
					if b.p.Fresh(a) {
						continue
					}
					b.spoils(t, a, func() {
						b.refusesDiff(t, tr.root, 0, api.ErrIO)
						if slices.Contains(nodes[1-i], a) {
							b.mayTell(t, x, y, api.ErrIO)
						} else {
							b.refusesDiff(t, x.root, y.root, api.ErrIO)
						}
					})
				}
			}
			b.differs(t, x, y)
			b.remounts(t)
		}
	})
}

// mayTell asks for an error, or for all that there is.
func (b *bench) mayTell(t *testing.T, x, y *tree, want api.Errno) {
	t.Helper()
	if _, _, e := share.Diff(b.p, x.root, y.root); e == want {
		b.refusesDiff(t, x.root, y.root, want)
		return
	}
	b.differs(t, x, y)
}

// What both trees have is not needed to tell in what they differ: it may all be spoilt.
func TestDiffOfTreesWhoseCommonNodesAreSpoilt(t *testing.T) {
	everywhere(t, balanced, func(t *testing.T, b *bench) {
		b.remounts(t)
		b.changed(t)
		x, y := b.trees[0], b.trees[1]
		l := b.nodes(t, y.root)
		both := slices.DeleteFunc(b.nodes(t, x.root), func(a int) bool { return !slices.Contains(l, a) })
		for _, a := range both {
			if e := b.d.Corrupt(a, 30, 1); e != api.OK {
				t.Fatalf("%s: Corrupt(%d): %d", b.what, a, e)
			}
		}
		b.differs(t, x, y)
		if len(both) > 0 {
			b.refusesDiff(t, x.root, 0, api.ErrIO)
			b.refusesDiff(t, y.root, 0, api.ErrIO)
		}
	})
}

func TestDiffWithoutPower(t *testing.T) {
	everywhere(t, balanced, func(t *testing.T, b *bench) {
		b.changed(t)
		x, y := b.trees[0], b.trees[1]
		nodes := [][]int{b.nodes(t, x.root), b.nodes(t, y.root)}
		unread := func(l, others []int) bool {
			return slices.ContainsFunc(l, func(a int) bool { return !b.p.Fresh(a) && !slices.Contains(others, a) })
		}
		off(b.d)
		if unread(nodes[0], nodes[1]) || unread(nodes[1], nodes[0]) {
			b.refusesDiff(t, x.root, y.root, api.ErrPower)
		} else {
			b.mayTell(t, x, y, api.ErrPower)
		}
		for i, tr := range b.trees {
			if unread(nodes[i], nil) {
				b.refusesDiff(t, tr.root, 0, api.ErrPower)
			} else {
				b.differs(t, tr, none())
			}
		}
	})
}

func TestDiffOfATreeWithoutANode(t *testing.T) {
	everywhere(t, little, func(t *testing.T, b *bench) {
		other := b.plants(t, []int{2, 3}, 9, 1)
		for _, a := range b.nodes(t, b.trees[0].root) {
			c := b.clone()
			c.unrefs(t, a)
			c.refusesDiff(t, c.trees[0].root, 0, api.ErrArg)
			c.refusesDiff(t, c.trees[0].root, other.root, api.ErrArg)
		}
	})
}

// A kid whose level is not the next lower one makes no tree, as chapter 10 says it.
func TestDiffOfAKidOfAnotherLevel(t *testing.T) {
	for i, shape := range [][]int{{2, 1}, {3, 3}, {2, 2, 1}, {2, 2, 2, 2, 2, 2, 2, 1}} {
		b := planted(t, shape, uint64(i))
		other := b.plants(t, []int{2, 3}, 9, 1)
		nodes := b.nodes(t, b.trees[0].root)[1:]
		for _, a := range sampled(nodes, 9) {
			was := b.node(t, a)
			for level := range 8 {
				if level == was.Level {
					continue
				}
				n := api.Node{Level: level, Kids: []api.Kid{{Key: leastOf(was), Addr: other.root}, {Key: greatest, Addr: other.root}}}
				if level == 0 {
					n = api.Node{Items: []api.Item{{Key: leastOf(was)}}}
				}
				c := b.also("node ", a, " of level ", level)
				if e := c.p.SetNode(a, n); e != api.OK {
					t.Fatalf("%s: SetNode: %d", c.what, e)
				}
				for _, root := range []int{0, other.root, a} { // a itself, of the level that it has, may be the root of a tree
					c.refusesDiff(t, c.trees[0].root, root, api.ErrIO)
				}
			}
		}
	}
}

// P12.4

// Who holds a tree and drops it leaves it as it was, and the pool too.
func TestHoldAndDrop(t *testing.T) {
	everywhere(t, slices.Concat(little, great), func(t *testing.T, b *bench) {
		if len(b.trees[0].row) < 100 {
			b.family(t)
		}
		for i := range b.trees {
			b.unchanged(t, func() {
				for range 3 {
					b.holds(t, i)
				}
				for range 3 {
					b.drops(t, len(b.trees)-1)
				}
			})
		}
		b.sound(t)
	})
}

func TestHoldAndDropWithoutPower(t *testing.T) {
	everywhere(t, little, func(t *testing.T, b *bench) {
		off(b.d)
		counts := b.counts()
		b.holds(t, 0)
		b.drops(t, 1)
		if !slices.Equal(b.counts(), counts) {
			t.Errorf("%s: the counts are %v, not %v", b.what, b.counts(), counts)
		}
	})
}

// The greatest tree of a disk.
func TestATreeThatFillsTheDisk(t *testing.T) {
	t.Parallel()
	b := planted(t, []int{12, 12, 12, 6}, 1)
	if len(b.trees[0].row) != 10368 {
		t.Fatalf("%d items", len(b.trees[0].row))
	}
	b.changed(t)
	b.differsEach(t)
	b.remounts(t)
	b.differsEach(t)
	c := b.clone()
	c.drops(t, 0)
	c.sound(t)
	c.drops(t, 0)
	b.drops(t, 1)
	b.sound(t)
	b.drops(t, 0)
	if !reflect.DeepEqual(b.picture(), c.picture()) {
		t.Error("in another order it comes to something else")
	}
	b.isEmpty(t)
}

// Trees come, are held, copied, changed and dropped, in a pool that is committed now and then.
func TestTreesThatComeAndGo(t *testing.T) {
	t.Parallel()
	for seed := range uint64(6) {
		t.Run(fmt.Sprint(seed), func(t *testing.T) {
			t.Parallel()
			w := &work{b: made(t, 700), r: rand.New(rand.NewPCG(12, seed)), ranks: []int{20, 40, 80, 160, 300, 500}[seed]}
			for i := range 1200 {
				w.b.what = fmt.Sprint("seed ", seed, ", step ", i)
				w.step(t)
				if i%5 == 0 || w.ranks < 50 {
					w.b.sound(t)
				}
			}
			w.makesRoom(t, 0)
			w.b.isEmpty(t)
		})
	}
}

// work does one thing after another to some trees.
type work struct {
	b     *bench
	r     *rand.Rand
	ranks int
}

func (w *work) step(t *testing.T) {
	t.Helper()
	b := w.b
	if len(b.trees) == 0 {
		b.trees = append(b.trees, none())
	}
	i, j := w.r.IntN(len(b.trees)), w.r.IntN(len(b.trees))
	switch n := w.r.IntN(100); {
	case n < 60:
		w.changes(t, b.trees[i])
	case n < 70:
		b.holds(t, i)
	case n < 73 && b.trees[i].root != 0:
		h, _ := find.Height(b.p, b.trees[i].root)
		b.twin(t, i, w.r.IntN(h+1))
	case n < 80:
		b.drops(t, i)
	case n < 84 && b.trees[0].root != 0:
		b.dissolves(t, w.r.IntN)
	case n < 88:
		b.commits(t)
	case n < 91:
		b.remounts(t)
	default:
		b.differs(t, b.trees[i], b.trees[j])
	}
	w.makesRoom(t, 200)
}

// changes puts or deletes; some values reference a block, as often a new one as one that there is.
func (w *work) changes(t *testing.T, tr *tree) {
	t.Helper()
	b := w.b
	k := ranked(w.r.IntN(w.ranks))
	if _, is := tr.row[k]; is && w.r.IntN(3) > 0 {
		b.deletes(t, tr, k)
		return
	}
	v := fmt.Sprint(w.r.IntN(3))
	if k.Kind == api.ItemData {
		a := b.putsData(t, v)
		b.puts(t, tr, k, naming(a))
		b.unrefs(t, a)
		return
	}
	b.puts(t, tr, k, v)
}

// makesRoom drops trees till so many blocks are free, or till there are no more trees.
func (w *work) makesRoom(t *testing.T, free int) {
	t.Helper()
	for len(w.b.trees) > 0 && (w.b.p.Free() < free || free == 0) {
		w.b.drops(t, w.r.IntN(len(w.b.trees)))
		if free > 0 {
			w.b.commits(t)
		}
		w.b.sound(t)
	}
}

// R6, R7

// A clone goes its own way.
func TestClones(t *testing.T) {
	everywhere(t, little, func(t *testing.T, b *bench) {
		b.family(t)
		b.unchanged(t, func() {
			c := b.clone()
			for len(c.trees) > 0 {
				c.drops(t, 0)
			}
			b.clone().dissolves(t, orders(3)["any"])
			b.clone().holds(t, 0)
		})
		b.sound(t)
	})
}

func TestDiffLeavesThePoolAsItWas(t *testing.T) {
	everywhere(t, balanced[:6], func(t *testing.T, b *bench) {
		b.changed(t)
		b.unchanged(t, func() {
			b.differsEach(t)
			b.refusesDiff(t, b.trees[0].root, -1, api.ErrArg)
			b.refusesDiff(t, b.trees[0].root, 1, api.ErrArg)
		})
	})
}

func scribbled(l []api.Item) {
	for i := range l {
		lent.Scribble(l[i].Value)
	}
	clear(l[:cap(l)])
}

// What is handed out is the caller's: no change of it shows anywhere, and nothing that is done to the pool shows in it.
func TestWhatIsHandedOut(t *testing.T) {
	everywhere(t, balanced, func(t *testing.T, b *bench) {
		b.changed(t)
		x, y := b.trees[0], b.trees[1]
		for _, other := range []*tree{x, none()} {
			gone, come, _ := share.Diff(b.p, other.root, y.root)
			wg, wc := other.row.lacking(y.row).items(), y.row.lacking(other.row).items()
			scribbled(gone)
			if !sameItems(come, wc) {
				t.Errorf("%s: a change of what is gone shows in what came: %v", b.what, come)
			}
			gone, come, _ = share.Diff(b.p, other.root, y.root)
			for i := range come {
				lent.Scribble(come[i].Value)
				if !sameItems(come[i+1:], wc[i+1:]) || !sameItems(gone, wg) {
					t.Fatalf("%s: a change of the value %d shows in others", b.what, i)
				}
			}
			b.differs(t, other, y)
		}
		gone, come, _ := share.Diff(b.p, x.root, y.root)
		wg, wc := x.row.lacking(y.row).items(), y.row.lacking(x.row).items()
		c := b.clone()
		l := c.steps(t, b.nodes(t, y.root)[0])
		clear(l[:cap(l)])
		b.sound(t)
		b.dissolves(t, orders(4)["any"])
		b.drops(t, 0)
		b.remounts(t)
		b.plants(t, []int{2, 3}, 5, 0)
		if !sameItems(gone, wg) || !sameItems(come, wc) {
			t.Errorf("%s: what was told became %v, %v", b.what, gone, come)
		}
	})
}

// What a Step answers is no longer the pool's: whoever changes it changes no node.
func TestWhatAStepHandsOut(t *testing.T) {
	everywhere(t, [][]int{{2, 1}, {12, 6}, {2, 2, 1}}, func(t *testing.T, b *bench) {
		c := b.clone()
		l := c.steps(t, c.trees[0].root)
		want := slices.Clone(l)
		l = append(l[:0], make([]int, len(l))...)
		b.sound(t)
		if got := b.steps(t, b.trees[0].root); !slices.Equal(got, want) {
			t.Errorf("%s: %v, not %v", b.what, got, want)
		}
		c.trees, c.pending = nil, want
		c.sound(t)
	})
}

// The same calls make the same of the same.
func TestTheSameAgain(t *testing.T) {
	everywhere(t, balanced[:8], func(t *testing.T, b *bench) {
		b.changed(t)
		var first []any
		for range 3 {
			c := b.clone()
			gone, come, e := share.Diff(c.p, c.trees[0].root, c.trees[1].root)
			c.holds(t, 1)
			c.drops(t, 0)
			now := append(c.picture(), gone, come, e)
			c.dissolves(t, orders(5)["any"])
			now = append(now, c.picture()...)
			if first == nil {
				first = now
			}
			if !reflect.DeepEqual(now, first) {
				t.Errorf("%s: the same calls made something else", c.what)
			}
		}
	})
}
