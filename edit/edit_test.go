package edit_test

import (
	"bytes"
	"cmp"
	"fmt"
	"maps"
	"math"
	"math/rand/v2"
	"reflect"
	"slices"
	"testing"

	"cambium/api"
	"cambium/drive"
	"cambium/edit"
	"cambium/find"
	"cambium/lent"
	"cambium/pool"
)

// least and greatest are keys that are ahead of and behind all that may be; first and last may be.
var (
	least    = api.Key{Obj: math.MinInt, Kind: math.MinInt, Off: math.MinInt}
	greatest = api.Key{Obj: math.MaxInt, Kind: math.MaxInt, Off: math.MaxInt}
	first    = api.Key{}
	last     = api.Key{Obj: api.MaxNumber, Kind: 255, Off: api.MaxNumber}
)

// ranked is the key of a rank from 1 on: keys rise as ranks do, in each of their numbers.
func ranked(rank int) api.Key {
	return api.Key{Obj: rank / 12, Kind: 2 + rank/4%3, Off: rank % 4 * 5}
}

func compared(a, b api.Key) int {
	return cmp.Or(cmp.Compare(a.Obj, b.Obj), cmp.Compare(a.Kind, b.Kind), cmp.Compare(a.Off, b.Off))
}

// names tells which block a value references, as the chapters say it.
func names(k api.Key, v string) (int, bool) {
	if k.Kind != 3 || len(v) != 3 || v[0] != 1 {
		return 0, false
	}
	return int(v[1])<<8 + int(v[2]), true
}

func naming(a int) string { return string([]byte{1, byte(a >> 8), byte(a)}) }

// tree is a root, and what the tree should have.
type tree struct {
	root int
	row  map[api.Key]string
}

func (tr *tree) keys() []api.Key { return slices.SortedFunc(maps.Keys(tr.row), compared) }

func (tr *tree) items() []api.Item {
	var l []api.Item
	for _, k := range tr.keys() {
		l = append(l, api.Item{Key: k, Value: []byte(tr.row[k])})
	}
	return l
}

func sameItems(a, b []api.Item) bool {
	return slices.EqualFunc(a, b, func(x, y api.Item) bool { return x.Key == y.Key && bytes.Equal(x.Value, y.Value) })
}

// bench is a pool, and all that should be in it.
type bench struct {
	what  string
	p     *pool.Pool
	d     *drive.Drive
	trees []*tree
	own   map[int]int    // how often the test itself references a block
	data  map[int]string // what is in the blocks of bytes
}

func made(t *testing.T, sectors, trees int) *bench {
	t.Helper()
	d, e := drive.New(sectors)
	if e != api.OK {
		t.Fatalf("New: %d", e)
	}
	p, e := pool.Format(d)
	if e != api.OK {
		t.Fatalf("Format: %d", e)
	}
	b := &bench{what: "new", p: p, d: d, own: map[int]int{}, data: map[int]string{}}
	for range trees {
		b.trees = append(b.trees, &tree{row: map[api.Key]string{}})
	}
	return b
}

func (b *bench) clone() *bench {
	c := *b
	c.p, c.own, c.data, c.trees = b.p.Clone(), maps.Clone(b.own), maps.Clone(b.data), nil
	for _, tr := range b.trees {
		c.trees = append(c.trees, &tree{tr.root, maps.Clone(tr.row)})
	}
	return &c
}

func (b *bench) commits(t *testing.T) {
	t.Helper()
	if e := b.p.Commit(); e != api.OK {
		t.Fatalf("%s: Commit: %d", b.what, e)
	}
}

func (b *bench) mounts(t *testing.T) {
	t.Helper()
	p, e := pool.Mount(b.d)
	if e != api.OK {
		t.Fatalf("%s: Mount: %d", b.what, e)
	}
	b.p = p
}

// remounts commits, and mounts what was committed.
func (b *bench) remounts(t *testing.T) {
	t.Helper()
	b.commits(t)
	b.mounts(t)
}

func (b *bench) refs(t *testing.T, a int) {
	t.Helper()
	if e := b.p.Ref(a); e != api.OK {
		t.Fatalf("%s: Ref(%d): %d", b.what, a, e)
	}
}

func (b *bench) unrefs(t *testing.T, a int) {
	t.Helper()
	if _, e := b.p.Unref(a); e != api.OK {
		t.Fatalf("%s: Unref(%d): %d", b.what, a, e)
	}
}

func (b *bench) putsNode(t *testing.T, n api.Node) int {
	t.Helper()
	a, e := b.p.PutNode(n)
	if e != api.OK {
		t.Fatalf("%s: PutNode(%+v): %d", b.what, n, e)
	}
	return a
}

// putsData lays down a block of bytes, with one reference, which is the caller's.
func (b *bench) putsData(t *testing.T, v string) int {
	t.Helper()
	a, e := b.p.PutBytes(api.BlockData, []byte(v))
	if e != api.OK {
		t.Fatalf("%s: PutBytes: %d", b.what, e)
	}
	b.data[a] = v
	return a
}

// fills lets so many blocks be free.
func (b *bench) fills(t *testing.T, free int) {
	t.Helper()
	for b.p.Free() > free {
		b.own[b.putsData(t, "")]++
	}
	if b.p.Free() != free {
		t.Fatalf("%s: %d are free, not %d", b.what, b.p.Free(), free)
	}
}

// holds lets another tree have what one has.
func (b *bench) holds(t *testing.T, i int) {
	t.Helper()
	tr := b.trees[i]
	if tr.root != 0 {
		b.refs(t, tr.root)
	}
	b.trees = append(b.trees, &tree{tr.root, maps.Clone(tr.row)})
}

func (b *bench) puts(t *testing.T, i int, k api.Key, v string) {
	t.Helper()
	tr := b.trees[i]
	root, e := edit.Put(b.p, tr.root, k, []byte(v))
	if e != api.OK || root == 0 {
		t.Fatalf("%s: Put(%d, %v, %x): %d, %d", b.what, tr.root, k, v, root, e)
	}
	tr.root, tr.row[k] = root, v
}

func (b *bench) deletes(t *testing.T, i int, k api.Key) {
	t.Helper()
	tr := b.trees[i]
	root, e := edit.Delete(b.p, tr.root, k)
	delete(tr.row, k)
	if e != api.OK || (root == 0) != (len(tr.row) == 0) {
		t.Fatalf("%s: Delete(%d, %v): %d, %d, with %d items left", b.what, tr.root, k, root, e, len(tr.row))
	}
	tr.root = root
}

// The refusals ask a call for an error, and for nothing beside it.

func (b *bench) refusesPut(t *testing.T, root int, k api.Key, v string, want api.Errno) {
	t.Helper()
	if a, e := edit.Put(b.p, root, k, []byte(v)); a != 0 || e != want {
		t.Errorf("%s: Put(%d, %v, %x): %d, %d, not %d", b.what, root, k, v, a, e, want)
	}
}

func (b *bench) refusesDelete(t *testing.T, root int, k api.Key, want api.Errno) {
	t.Helper()
	if a, e := edit.Delete(b.p, root, k); a != 0 || e != want {
		t.Errorf("%s: Delete(%d, %v): %d, %d, not %d", b.what, root, k, a, e, want)
	}
}

// walk goes through all trees of a bench, through what they share once.
type walk struct {
	b     *bench
	nodes map[int]api.Node
	below map[int][]api.Item // of kids
	refs  map[int]int
}

// node reads a node, and counts what it references when it is read first.
func (w *walk) node(t *testing.T, a int) api.Node {
	t.Helper()
	if n, is := w.nodes[a]; is {
		return n
	}
	n, e := w.b.p.Node(a)
	if e != api.OK {
		t.Fatalf("%s: Node(%d): %d", w.b.what, a, e)
	}
	w.nodes[a] = n
	for _, x := range n.Kids {
		w.refs[x.Addr]++
	}
	for _, x := range n.Items {
		if to, is := names(x.Key, string(x.Value)); is {
			w.refs[to]++
			w.holds(t, to)
		}
	}
	return n
}

func (w *walk) holds(t *testing.T, a int) {
	t.Helper()
	if v, e := w.b.p.Bytes(a, api.BlockData); string(v) != w.b.data[a] || e != api.OK {
		t.Fatalf("%s: Bytes(%d): %q, %d, not %q", w.b.what, a, v, e, w.b.data[a])
	}
}

func leastOf(n api.Node) api.Key {
	if n.Level == 0 {
		return n.Items[0].Key
	}
	return n.Kids[0].Key
}

// items are those below a node, which is held against what a balanced tree's should be.
func (w *walk) items(t *testing.T, a int, top bool) []api.Item {
	t.Helper()
	n := w.node(t, a)
	switch {
	case n.Level > 7 || n.Level == 0 && len(n.Items) > 6 || len(n.Kids) > 12 || n.Level > 0 && len(n.Kids) < 2:
		t.Fatalf("%s: node %d of level %d has %d items, %d kids", w.b.what, a, n.Level, len(n.Items), len(n.Kids))
	case !top && (n.Level == 0 && len(n.Items) < 3 || n.Level > 0 && len(n.Kids) < 6):
		t.Fatalf("%s: node %d of level %d has only %d items, %d kids", w.b.what, a, n.Level, len(n.Items), len(n.Kids))
	case n.Level == 0:
		return n.Items
	}
	if l, is := w.below[a]; is {
		return l
	}
	var l []api.Item
	for _, x := range n.Kids {
		if kid := w.node(t, x.Addr); kid.Level != n.Level-1 || leastOf(kid) != x.Key {
			t.Fatalf("%s: kid %d of %d has the level %d and the key %v, not %d and %v", w.b.what, x.Addr, a, kid.Level, leastOf(kid), n.Level-1, x.Key)
		}
		l = append(l, w.items(t, x.Addr, false)...)
	}
	w.below[a] = l
	return l
}

// walked holds all trees against what they should have, and tells how often each block is referenced.
func (b *bench) walked(t *testing.T) *walk {
	t.Helper()
	w := &walk{b, map[int]api.Node{}, map[int][]api.Item{}, maps.Clone(b.own)}
	for i, tr := range b.trees {
		var l []api.Item
		if tr.root != 0 {
			w.refs[tr.root]++
			l = w.items(t, tr.root, true)
		}
		want := tr.items()
		if !sameItems(l, want) {
			t.Fatalf("%s: tree %d has %d items %v, not %d items %v", b.what, i, len(l), l, len(want), want)
		}
		if l, e := find.Scan(b.p, tr.root, least, greatest, math.MaxInt); !sameItems(l, want) || e != api.OK {
			t.Fatalf("%s: Scan of tree %d tells %d items, %d, not %d", b.what, i, len(l), e, len(want))
		}
	}
	return w
}

// sound holds a whole pool against what should be in it.
func (b *bench) sound(t *testing.T) {
	t.Helper()
	w := b.walked(t)
	for a := -1; a <= b.d.Size(); a++ {
		if b.p.Count(a) != w.refs[a] {
			t.Fatalf("%s: block %d has the count %d, not %d", b.what, a, b.p.Count(a), w.refs[a])
		}
	}
}

// gets asks for some keys one by one.
func (b *bench) gets(t *testing.T, i int, keys ...api.Key) {
	t.Helper()
	tr := b.trees[i]
	for _, k := range keys {
		want, is := tr.row[k]
		v, e := find.Get(b.p, tr.root, k)
		if is && (string(v) != want || e != api.OK) || !is && e != api.ErrNone {
			t.Fatalf("%s: Get(%d, %v): %x, %d, not %x, %v", b.what, tr.root, k, v, e, want, is)
		}
	}
}

// content is what is in a block, whichever it is.
func (b *bench) content(a int) string {
	n, e := b.p.Node(a)
	v, f := b.p.Bytes(a, api.BlockData)
	return fmt.Sprint(n, e, v, f)
}

// frozen are the blocks that may not be changed: they have several references, or were committed.
func (b *bench) frozen() map[int]string {
	l := map[int]string{}
	for a := range b.d.Size() {
		if n := b.p.Count(a); n > 1 || n == 1 && !b.p.Fresh(a) {
			l[a] = b.content(a)
		}
	}
	return l
}

func (b *bench) stillFrozen(t *testing.T, was map[int]string) {
	t.Helper()
	for a, want := range was {
		if b.p.Count(a) > 0 && b.content(a) != want {
			t.Fatalf("%s: block %d became %s, not %s", b.what, a, b.content(a), want)
		}
	}
}

// picture is all that can be seen of a pool and its disk.
func (b *bench) picture() []any {
	l := []any{b.p.Super(), b.p.Free(), b.d.Steps(), b.d.Cached(), b.d.On()}
	for a := range b.d.Size() {
		v, e := b.d.Read(a)
		l = append(l, b.p.Count(a), b.p.Fresh(a), b.content(a), v, e)
	}
	return l
}

// unchanged asks for a pool and its disk to be what they were after f.
func (b *bench) unchanged(t *testing.T, f func()) {
	t.Helper()
	was := b.picture()
	f()
	if !reflect.DeepEqual(b.picture(), was) {
		t.Errorf("%s: the pool is not what it was", b.what)
	}
}

// planter lays a tree down as it may be, but as no order of calls needs to make it. Its keys have even ranks.
type planter struct {
	b     *bench
	r     *rand.Rand
	rank  int
	turns map[int]int // how many nodes of a level there are
	named []int       // blocks that values reference
}

// plant lays down a node: shape tells for each level, the root's first, how many kids or items one node has, the next one, and so on, from the start again when there are no more.
func (g *planter) plant(t *testing.T, shape [][]int) api.Kid {
	t.Helper()
	n := api.Node{Level: len(shape) - 1}
	many := shape[0][g.turns[n.Level]%len(shape[0])]
	g.turns[n.Level]++
	for range many {
		if n.Level > 0 {
			n.Kids = append(n.Kids, g.plant(t, shape[1:]))
			continue
		}
		g.rank += 2
		k := ranked(g.rank)
		v := g.value(t, k)
		g.b.trees[0].row[k] = v
		n.Items = append(n.Items, api.Item{Key: k, Value: []byte(v)})
	}
	return api.Kid{Key: leastOf(n), Addr: g.b.putsNode(t, n)}
}

// value is any that may be: some reference a block, and some look as if they did.
func (g *planter) value(t *testing.T, k api.Key) string {
	t.Helper()
	switch g.r.IntN(4) {
	case 0:
		if k.Kind == api.ItemData {
			return g.naming(t)
		}
		return naming(g.b.trees[0].root + 40) // of a kind that references nothing
	case 1:
		return []string{"", "\x01", "\x01\x00", "\x01\x00\x2a\x00", "\x00\x00\x2a", "\x02\x00\x2a", "\x01\x00\x00\x2a"}[g.r.IntN(7)]
	}
	v := make([]byte, g.r.IntN(29))
	for i := range v {
		v[i] = byte(2 + g.r.IntN(254))
	}
	return string(v)
}

func (g *planter) naming(t *testing.T) string {
	t.Helper()
	if len(g.named) < 3 {
		a := g.b.putsData(t, fmt.Sprint("block ", len(g.named)))
		g.named = append(g.named, a)
		return naming(a)
	}
	a := g.named[g.r.IntN(3)]
	g.b.refs(t, a)
	return naming(a)
}

func shaped(shape [][]int) string { return fmt.Sprint(shape) }

func planted(t *testing.T, shape [][]int, seed uint64) *bench {
	t.Helper()
	nodes := 1
	for i := len(shape) - 2; i >= 0; i-- {
		nodes = nodes*slices.Max(shape[i]) + 1
	}
	b := made(t, min(2048, max(64, nodes*6)), 1)
	g := &planter{b: b, r: rand.New(rand.NewPCG(11, seed)), turns: map[int]int{}}
	b.trees[0].root = g.plant(t, shape).Addr
	b.what = shaped(shape) + " new"
	b.sound(t)
	return b
}

// also is a clone in another state.
func (b *bench) also(what string) *bench {
	c := b.clone()
	c.what += ", " + what
	return c
}

// states are those of a tree, from new to committed, and from the only one to one whose nodes others have as well.
func states(t *testing.T, shape [][]int, seed uint64, f func(b *bench)) {
	t.Helper()
	b := planted(t, shape, seed)
	f(b)
	shared(t, b, f)
	c := b.also("committed")
	c.commits(t)
	f(c)
	ends(t, b, f)
	c.what = b.what + ", mounted"
	c.mounts(t)
	shared(t, c, f)
}

// ends are states that mix: in the first some nodes are new, in the second some of them another tree has too, and some of the committed ones.
func ends(t *testing.T, b *bench, f func(b *bench)) {
	t.Helper()
	c := b.also("mounted, then changed")
	c.remounts(t)
	c = mixed(t, c)
	f(c.clone())
	c.what += ", held, and changed again"
	c.holds(t, 0)
	f(mixed(t, c))
}

// mixed has new nodes above committed ones.
func mixed(t *testing.T, b *bench) *bench {
	t.Helper()
	l := b.trees[0].keys()
	for i := 0; i < len(l); i += 1 + len(l)/4 {
		if _, is := names(l[i], b.trees[0].row[l[i]]); !is {
			b.puts(t, 0, l[i], "mixed")
		}
	}
	b.sound(t)
	return b
}

// shared has a second tree, with the whole of the first, with its kids, or with what is below one of them.
func shared(t *testing.T, b *bench, f func(b *bench)) {
	t.Helper()
	c := b.also("held")
	c.holds(t, 0)
	f(c)
	n, _ := b.p.Node(b.trees[0].root)
	if n.Level == 0 {
		return
	}
	c = b.also("with a twin")
	for _, x := range n.Kids {
		c.refs(t, x.Addr)
	}
	c.trees = append(c.trees, &tree{c.putsNode(t, n), maps.Clone(c.trees[0].row)})
	f(c)
	for i := 0; i < len(n.Kids); i += len(n.Kids) - 1 {
		c = b.also(fmt.Sprint("with a branch of kid ", i))
		c.refs(t, n.Kids[i].Addr)
		branch := &tree{n.Kids[i].Addr, map[api.Key]string{}}
		for k, v := range c.trees[0].row {
			if compared(k, n.Kids[i].Key) >= 0 && (i > 0 || compared(k, n.Kids[1].Key) < 0) {
				branch.row[k] = v
			}
		}
		c.trees = append(c.trees, branch)
		f(c)
	}
}

// Shapes: of the least and the greatest numbers, beside each other and beside others, so that a call splits, joins and evens out on each level.
var (
	little = [][][]int{
		{{1}}, {{2}}, {{3}}, {{5}}, {{6}},
		{{2}, {3}}, {{2}, {6}}, {{2}, {3, 6}}, {{2}, {6, 3}}, {{2}, {3, 4}}, {{2}, {4, 3}}, {{2}, {3, 5}}, {{2}, {4}},
		{{3}, {3}}, {{3}, {3, 6, 3}}, {{3}, {6, 3, 6}}, {{3}, {3, 3, 6}}, {{3}, {6, 3, 3}}, {{4}, {3, 4, 5, 6}},
		{{6}, {3}}, {{11}, {6}}, {{12}, {3}}, {{12}, {6}}, {{12}, {3, 6}}, {{12}, {5, 6, 6}},
	}
	middle = [][][]int{
		{{2}, {6}, {3}}, {{2}, {12}, {6}}, {{2}, {6, 12}, {3, 6}}, {{2}, {12, 6}, {3}}, {{2}, {6, 12}, {3}}, {{2}, {6, 7}, {3}}, {{2}, {7, 6}, {3}}, {{2}, {7}, {3}},
		{{3}, {6, 12, 6}, {3}}, {{3}, {12, 6, 12}, {3, 3, 6}}, {{3}, {6, 6, 12}, {6, 3, 3}}, {{2}, {11, 12}, {6}},
	}
	great = [][][]int{
		{{12}, {6}, {3}}, {{12}, {12}, {6}}, {{12}, {12}, {3}},
		{{2}, {6}, {6}, {3}}, {{2}, {12}, {12}, {6}}, {{2}, {6, 12}, {12, 6}, {3, 6}}, {{2}, {6, 7}, {6}, {3}}, {{2}, {6}, {6, 12}, {3}}, {{3}, {12, 6, 6}, {6, 6, 12}, {3, 3, 3, 6}},
		{{2}, {6}, {6}, {6}, {3}},
	}
)

// sampled are some of a tree's keys, the first and the last among them; which of the others hangs on what state the tree is in.
func (b *bench) sampled(most int) []api.Key {
	l := b.trees[0].keys()
	if len(l) <= most {
		return l
	}
	some := []api.Key{l[0]}
	for i := 1 + len(b.what)%(len(l)/most); i < len(l)-1; i += len(l)/most | 1 {
		some = append(some, l[i])
	}
	return append(some, l[len(l)-1])
}

// behind is the key right behind one of an even rank, which the tree does not have.
func behind(k api.Key) api.Key {
	k.Off += 5
	return k
}

// The chapter's example.

func TestTheExample(t *testing.T) {
	for _, k := range []api.Key{first, {Obj: 1, Kind: 2, Off: 3}, last} {
		b := made(t, 32, 1)
		free := b.p.Free()
		b.refusesDelete(t, 0, k, api.ErrNone)
		b.puts(t, 0, k, "ab")
		if n, e := b.p.Node(b.trees[0].root); n.Level != 0 || !sameItems(n.Items, []api.Item{{Key: k, Value: []byte("ab")}}) || e != api.OK {
			t.Errorf("no leaf: %+v, %d", n, e)
		}
		if v, e := find.Get(b.p, b.trees[0].root, k); string(v) != "ab" || e != api.OK {
			t.Errorf("Get: %x, %d", v, e)
		}
		b.sound(t)
		b.deletes(t, 0, k)
		b.sound(t)
		if b.trees[0].root != 0 || b.p.Free() != free {
			t.Errorf("root %d, %d are free, not %d", b.trees[0].root, b.p.Free(), free)
		}
	}
}

// P11.1

// orders are those in which n ranks come.
func orders(n int) map[string][]int {
	r := rand.New(rand.NewPCG(11, uint64(n)))
	rising, inward, strides := make([]int, n), make([]int, n), make([]int, n)
	for i := range n {
		rising[i] = 1 + i
		inward[i] = 1 + i/2
		if i%2 == 1 {
			inward[i] = n - i/2
		}
		strides[i] = 1 + i*73%n // n has no part in common with 73
	}
	falling, outward := slices.Clone(rising), slices.Clone(inward)
	slices.Reverse(falling)
	slices.Reverse(outward)
	mixed := r.Perm(n)
	for i := range mixed {
		mixed[i]++
	}
	return map[string][]int{"rising": rising, "falling": falling, "inward": inward, "outward": outward, "in strides": strides, "mixed": mixed}
}

func TestEachOrder(t *testing.T) {
	t.Parallel()
	l := orders(200)
	for come, puts := range l {
		t.Run(come, func(t *testing.T) {
			t.Parallel()
			b := made(t, 128, 1)
			for i, rank := range puts {
				b.what = fmt.Sprint(come, " ", i)
				b.puts(t, 0, ranked(rank), fmt.Sprint("value ", rank))
				b.sound(t)
				b.gets(t, 0, ranked(rank), ranked(puts[0]), ranked(puts[i/2]), ranked(rank%200+1))
			}
			for gone, deletes := range l {
				c := b.clone()
				for i, rank := range deletes {
					c.what = fmt.Sprint(come, ", then ", gone, " ", i)
					c.deletes(t, 0, ranked(rank))
					if come == gone || i%7 == 0 || i > 180 {
						c.sound(t)
					}
					c.gets(t, 0, ranked(rank), ranked(deletes[199]))
				}
				if free := made(t, 128, 0).p.Free(); c.p.Free() != free {
					t.Errorf("%s: %d are free, not %d", c.what, c.p.Free(), free)
				}
			}
		})
	}
}

// Trees as high as a disk has room for.
func TestATreeThatFillsTheDisk(t *testing.T) {
	t.Parallel()
	for _, come := range []string{"rising", "falling", "mixed"} {
		t.Run(come, func(t *testing.T) {
			t.Parallel()
			b := made(t, 2048, 1)
			n := 0
			l := orders(9000)[come]
			for b.p.Free() >= 17 && n < len(l) {
				b.puts(t, 0, ranked(l[n]), fmt.Sprint("value ", n))
				n++
				if n%500 == 0 {
					b.what = fmt.Sprint(come, " ", n)
					b.sound(t)
				}
			}
			b.sound(t)
			if h, e := find.Height(b.p, b.trees[0].root); h != 5 || e != api.OK {
				t.Errorf("%d items make a height of %d, %d", n, h, e)
			}
			for i, rank := range orders(9000)["mixed"] {
				if _, is := b.trees[0].row[ranked(rank)]; is {
					b.deletes(t, 0, ranked(rank))
				}
				if i%900 == 0 {
					b.sound(t)
				}
			}
			b.sound(t)
		})
	}
}

// permuted does f for each order of a list.
func permuted(l []int, f func([]int)) {
	var from func(i int)
	from = func(i int) {
		if i == len(l) {
			f(l)
			return
		}
		for j := i; j < len(l); j++ {
			l[i], l[j] = l[j], l[i]
			from(i + 1)
			l[i], l[j] = l[j], l[i]
		}
	}
	from(0)
}

func TestAllOrdersOfSeven(t *testing.T) {
	t.Parallel()
	none := made(t, 32, 1)
	permuted([]int{1, 2, 3, 4, 5, 6, 7}, func(l []int) {
		b := none.clone()
		b.what = fmt.Sprint(l)
		for _, rank := range l {
			b.puts(t, 0, ranked(rank), fmt.Sprint(rank))
		}
		b.sound(t)
		for i := range l {
			b.deletes(t, 0, ranked(l[(i+3)%7]))
			b.sound(t)
		}
	})
}

// eachCall does each call that changes a tree in one place on a clone: an item that goes, one whose value is another, one that is new.
func (b *bench) eachCall(most int, f func(c *bench, call func(t *testing.T))) {
	on := func(what string, call func(t *testing.T, c *bench)) {
		c := b.clone()
		c.what = b.what + ", " + what
		f(c, func(t *testing.T) {
			t.Helper()
			call(t, c)
		})
	}
	for _, k := range b.sampled(most) {
		on(fmt.Sprint("Delete ", k), func(t *testing.T, c *bench) { t.Helper(); c.deletes(t, 0, k) })
		on(fmt.Sprint("Put ", k), func(t *testing.T, c *bench) { t.Helper(); c.puts(t, 0, k, "another") })
		on(fmt.Sprint("Put behind ", k), func(t *testing.T, c *bench) { t.Helper(); c.puts(t, 0, behind(k), "a new one") })
	}
	for _, k := range []api.Key{first, last} {
		on(fmt.Sprint("Put ", k), func(t *testing.T, c *bench) { t.Helper(); c.puts(t, 0, k, "at the end") })
	}
}

// changes holds each call against what it should change, and against what it should not: other trees, the blocks that are others' as well or committed, and the disk.
func (b *bench) changes(t *testing.T, most int) {
	t.Helper()
	frozen, steps := b.frozen(), b.d.Steps()
	b.eachCall(most, func(c *bench, call func(*testing.T)) {
		call(t)
		c.sound(t)
		c.stillFrozen(t, frozen)
		if c.d.Steps() != steps {
			t.Fatalf("%s: the disk took %d steps", c.what, c.d.Steps()-steps)
		}
	})
	b.sound(t)
}

func TestEachCallOnEachShape(t *testing.T) {
	t.Parallel()
	for _, x := range []struct {
		shapes [][][]int
		most   int
	}{{little, 12}, {middle, 4}, {great, 1}} {
		for i, shape := range x.shapes {
			t.Run(shaped(shape), func(t *testing.T) {
				t.Parallel()
				states(t, shape, uint64(i), func(b *bench) { b.changes(t, x.most) })
			})
		}
	}
}

// The greatest tree of a disk, which has no room for much beside it.
func TestEachCallOnAFullTree(t *testing.T) {
	t.Parallel()
	b := planted(t, [][]int{{12}, {12}, {12}, {6}}, 1)
	b.changes(t, 3)
	b.remounts(t)
	b.holds(t, 0)
	b.what += ", mounted, held"
	b.changes(t, 3)
}

// Of each shape all goes, item by item; and as much comes, till each leaf was split.
func TestEachShapeToItsEnd(t *testing.T) {
	t.Parallel()
	for i, shape := range slices.Concat(little, middle, great[:1]) {
		t.Run(shaped(shape), func(t *testing.T) {
			t.Parallel()
			b := planted(t, shape, uint64(i))
			f := func(b *bench) {
				l := b.trees[0].keys()
				b.toItsEnd(t, l)
				slices.Reverse(l)
				b.toItsEnd(t, l)
				rand.New(rand.NewPCG(11, 7)).Shuffle(len(l), func(i, j int) { l[i], l[j] = l[j], l[i] })
				b.toItsEnd(t, l)
			}
			f(b)
			ends(t, b, f)
		})
	}
}

func (b *bench) toItsEnd(t *testing.T, l []api.Key) {
	t.Helper()
	every := 1 + len(l)/8
	c := b.clone()
	for i, k := range l {
		c.deletes(t, 0, k)
		if i%every == 0 {
			c.sound(t)
		}
	}
	c.sound(t)
	c = b.clone()
	for i, k := range l {
		c.puts(t, 0, behind(k), fmt.Sprint(i))
		if i%every == 0 {
			c.sound(t)
		}
	}
	c.sound(t)
}

// Where the numbers leave no choice, so high is the tree then.
func TestHeights(t *testing.T) {
	t.Parallel()
	for i, x := range []struct {
		shape       [][]int
		call        string
		was, become int
	}{
		{[][]int{{1}}, "Delete", 1, 0}, {[][]int{{2}}, "Delete", 1, 1}, {[][]int{{5}}, "Put", 1, 1}, {[][]int{{6}}, "Put", 1, 2},
		{[][]int{{2}, {3}}, "Delete", 2, 1}, {[][]int{{2}, {4}}, "Delete", 2, 2}, {[][]int{{12}, {6}}, "Put", 2, 3}, {[][]int{{11}, {6}}, "Put", 2, 2}, {[][]int{{12}, {5}}, "Put", 2, 2}, {[][]int{{3}, {3}}, "Delete", 2, 2},
		{[][]int{{2}, {6}, {3}}, "Delete", 3, 2}, {[][]int{{2}, {7}, {3}}, "Delete", 3, 3}, {[][]int{{12}, {12}, {6}}, "Put", 3, 4}, {[][]int{{11}, {12}, {6}}, "Put", 3, 3},
		{[][]int{{2}, {6}, {6}, {3}}, "Delete", 4, 3}, {[][]int{{3}, {6}, {6}, {3}}, "Delete", 4, 4}, {[][]int{{12}, {12}, {12}, {6}}, "Put", 4, 5},
		{[][]int{{2}, {6}, {6}, {6}, {3}}, "Delete", 5, 4},
	} {
		b := planted(t, x.shape, uint64(i))
		for _, k := range b.sampled(24) {
			c := b.clone()
			h, _ := find.Height(c.p, c.trees[0].root)
			if x.call == "Put" {
				c.puts(t, 0, behind(k), "x")
			} else {
				c.deletes(t, 0, k)
			}
			if become, e := find.Height(c.p, c.trees[0].root); h != x.was || become != x.become || e != api.OK {
				t.Errorf("%v, %s: from %d to %d, %d, not from %d to %d", x.shape, x.call, h, become, e, x.was, x.become)
			}
		}
	}
}

// An item that comes ahead of all, or the first one that goes, shows in the key of each node above it.
func TestTheLeastKey(t *testing.T) {
	t.Parallel()
	for i, shape := range [][][]int{{{2}, {4}}, {{2}, {7}, {5}}, {{2}, {7}, {7}, {5}}} {
		states(t, shape, uint64(i), func(b *bench) {
			c := b.clone()
			for rank := 1; rank >= 0; rank-- {
				c.puts(t, 0, ranked(rank), "ahead")
				c.sound(t)
			}
			for _, k := range c.trees[0].keys()[:3] {
				c.deletes(t, 0, k)
				c.sound(t)
			}
		})
	}
}

func TestEachLengthOfAValue(t *testing.T) {
	t.Parallel()
	for i, shape := range [][][]int{{{6}}, {{2}, {6}}, {{12}, {3}}, {{2}, {6}, {4}}} {
		states(t, shape, uint64(i), func(b *bench) {
			l := b.trees[0].keys()
			c := b.clone()
			for n := range 29 {
				for _, length := range []int{n, 28 - n, 28, 0} {
					v := string(bytes.Repeat([]byte{byte(255 - n)}, length))
					c.puts(t, 0, l[n%len(l)], v)
					c.gets(t, 0, l[n%len(l)])
				}
				c.sound(t)
			}
			for _, k := range l {
				c.puts(t, 0, k, string(bytes.Repeat([]byte{255}, 28)))
			}
			c.sound(t)
			for _, k := range l {
				c.puts(t, 0, k, "")
				c.puts(t, 0, k, "")
			}
			c.sound(t)
		})
	}
}

// The same value once more is as any other.
func TestTheSameValueAgain(t *testing.T) {
	for i, shape := range [][][]int{{{6}}, {{2}, {3}}, {{2}, {6}, {4}}} {
		states(t, shape, uint64(i), func(b *bench) {
			c := b.clone()
			for _, k := range c.trees[0].keys() {
				if a, is := names(k, c.trees[0].row[k]); is {
					c.refs(t, a)
				}
				c.puts(t, 0, k, c.trees[0].row[k])
			}
			c.sound(t)
		})
	}
}

// Keys that differ in one number alone, and those at the ends.
func TestEdgesOfKeys(t *testing.T) {
	b := made(t, 128, 1)
	var l []api.Key
	for _, obj := range []int{0, 1, 255, 256, 1 << 24, api.MaxNumber - 1, api.MaxNumber} {
		for _, kind := range []int{0, 1, 2, 4, 254, 255} {
			for _, off := range []int{0, 1, 255, 256, api.MaxNumber} {
				l = append(l, api.Key{Obj: obj, Kind: kind, Off: off})
			}
		}
	}
	r := rand.New(rand.NewPCG(11, 1))
	for _, i := range r.Perm(len(l)) {
		b.puts(t, 0, l[i], fmt.Sprint(i))
		b.sound(t)
	}
	b.gets(t, 0, l...)
	for _, i := range r.Perm(len(l)) {
		b.deletes(t, 0, l[i])
		b.gets(t, 0, l[i])
		b.sound(t)
	}
}

// wrongKeys may not be.
var wrongKeys = []api.Key{
	{Obj: -1}, {Kind: -1}, {Off: -1}, {Obj: api.MaxNumber + 1}, {Kind: 256}, {Off: api.MaxNumber + 1}, {Obj: 1 << 32}, {Obj: 1, Kind: 2, Off: 1 << 32}, least, greatest, {Obj: math.MinInt}, {Kind: math.MaxInt},
}

func TestWrongKeysAndValues(t *testing.T) {
	for i, shape := range [][][]int{{{1}}, {{6}}, {{2}, {3}}, {{12}, {6}}, {{2}, {6}, {3}}} {
		states(t, shape, uint64(i), func(b *bench) {
			root := b.trees[0].root
			k := b.trees[0].keys()[0]
			b.unchanged(t, func() {
				for _, x := range wrongKeys {
					for _, v := range []string{"", "ab", naming(b.d.Size() - 1), string(make([]byte, 28)), string(make([]byte, 29))} {
						b.refusesPut(t, root, x, v, api.ErrArg)
						b.refusesPut(t, 0, x, v, api.ErrArg)
						b.refusesPut(t, -1, x, v, api.ErrArg)
					}
					b.refusesDelete(t, root, x, api.ErrNone)
					b.refusesDelete(t, 0, x, api.ErrNone)
				}
				for _, n := range []int{29, 30, 255, 256, 257, 284, 4096} {
					for _, x := range []api.Key{k, behind(k), first, last} {
						b.refusesPut(t, root, x, string(make([]byte, n)), api.ErrArg)
						b.refusesPut(t, 0, x, string(make([]byte, n)), api.ErrArg)
					}
				}
			})
			b.sound(t)
		})
	}
}

func TestKeysThatThereAreNot(t *testing.T) {
	t.Parallel()
	for i, shape := range slices.Concat(little, middle) {
		t.Run(shaped(shape), func(t *testing.T) {
			t.Parallel()
			states(t, shape, uint64(i), func(b *bench) {
				root := b.trees[0].root
				b.unchanged(t, func() {
					for _, k := range b.sampled(30) {
						b.refusesDelete(t, root, behind(k), api.ErrNone)
						for _, by := range []api.Key{{Obj: 1 << 20}, {Kind: 100}, {Off: 1}, {Off: -1}, {Kind: 256}, {Off: 1 << 32}, {Obj: 1 << 32}} {
							b.refusesDelete(t, root, api.Key{Obj: k.Obj + by.Obj, Kind: k.Kind + by.Kind, Off: k.Off + by.Off}, api.ErrNone)
						}
						b.refusesDelete(t, 0, k, api.ErrNone)
					}
					b.refusesDelete(t, root, first, api.ErrNone)
					b.refusesDelete(t, root, last, api.ErrNone)
				})
			})
		})
	}
}

func TestWhatIsGoneIsNotThereAgain(t *testing.T) {
	b := planted(t, [][]int{{2}, {6}, {4}}, 1)
	l := b.trees[0].keys()
	for i, k := range l {
		b.deletes(t, 0, k)
		b.unchanged(t, func() {
			for _, k := range l[:i+1] {
				b.refusesDelete(t, b.trees[0].root, k, api.ErrNone)
			}
		})
	}
}

// References.

// dataKey is of the only kind whose values reference blocks.
func dataKey(n int) api.Key { return api.Key{Obj: 7, Kind: api.ItemData, Off: n} }

// The reference of a value is the caller's till the value is put, then the leaf's, and no more when it is replaced or deleted.
func TestAValueThatReferencesABlock(t *testing.T) {
	for _, items := range []int{0, 2, 5, 6, 40, 100} {
		b := made(t, 256, 1)
		for i := range items {
			b.puts(t, 0, dataKey(10*i), fmt.Sprint(i))
		}
		for round := range 4 {
			b.what = fmt.Sprint(items, " items, round ", round)
			k := dataKey(10*(round*7%(items+1)) + round%2*5)
			counts := func(a, want int) {
				t.Helper()
				if b.p.Count(a) != want {
					t.Fatalf("%s: block %d has the count %d, not %d", b.what, a, b.p.Count(a), want)
				}
				b.sound(t)
			}
			one := b.putsData(t, "one")
			b.puts(t, 0, k, naming(one))
			counts(one, 1)
			b.refs(t, one)
			b.puts(t, 0, k, naming(one)) // the same block, counted again
			counts(one, 1)
			two := b.putsData(t, "two")
			b.puts(t, 0, k, naming(two))
			counts(one, 0)
			counts(two, 1)
			b.puts(t, 0, k, "no block")
			counts(two, 0)
			three := b.putsData(t, "three")
			b.puts(t, 0, k, naming(three))
			b.refs(t, three)
			b.puts(t, 0, dataKey(1000), naming(three))
			counts(three, 2)
			b.deletes(t, 0, k)
			counts(three, 1)
			b.deletes(t, 0, dataKey(1000))
			counts(three, 0)
			if round == 1 {
				b.commits(t)
			}
			if round == 2 {
				b.remounts(t)
			}
		}
	}
}

// Items of a leaf that reference the same block, of which one is put anew with that block, by a tree that shares the leaf and by one that doesn't.
func TestABlockThatALeafReferencesTwice(t *testing.T) {
	for _, more := range []int{0, 3, 30} {
		for how := range 6 {
			b := made(t, 128, 1)
			b.what = fmt.Sprint(more, " more, ", how)
			a := b.putsData(t, "twice")
			b.refs(t, a)
			for i := range more {
				b.puts(t, 0, dataKey(100+i), "more")
			}
			b.puts(t, 0, dataKey(1), naming(a))
			b.puts(t, 0, dataKey(2), naming(a))
			if how%2 == 1 {
				b.remounts(t)
			}
			if how >= 2 {
				b.holds(t, 0)
			}
			if how >= 4 {
				b.holds(t, 1)
			}
			b.sound(t)
			for i := range b.trees {
				b.refs(t, a)
				b.puts(t, i, dataKey(1+i%2), naming(a))
				b.sound(t)
				b.deletes(t, i, dataKey(2-i%2))
				b.sound(t)
			}
			for i := range b.trees {
				b.deletes(t, i, dataKey(1+i%2))
				b.sound(t)
			}
			if b.p.Count(a) != 0 {
				t.Errorf("%s: the count is %d", b.what, b.p.Count(a))
			}
		}
	}
}

// What looks as if it referenced a block does not.
func TestValuesThatReferenceNothing(t *testing.T) {
	b := made(t, 64, 1)
	a := b.putsData(t, "mine")
	b.own[a] = 1
	hi, lo := byte(a>>8), byte(a)
	for range 3 {
		for i, v := range []string{"", "\x01", string([]byte{1, lo}), string([]byte{1, hi, lo, 0}), string([]byte{1, 0, hi, lo}), string([]byte{0, hi, lo}), string([]byte{2, hi, lo}), string([]byte{hi, lo, 1}), string([]byte{129, hi, lo})} {
			b.puts(t, 0, dataKey(i), v)
			b.sound(t)
		}
		for _, kind := range []int{0, 1, 2, 4, 131, 255} {
			b.puts(t, 0, api.Key{Obj: 7, Kind: kind, Off: 1}, naming(a))
			b.sound(t)
		}
		b.holds(t, 0)
		for _, k := range b.trees[0].keys() {
			b.puts(t, 0, k, "another")
			b.sound(t)
			b.deletes(t, 0, k)
			b.sound(t)
		}
		b.commits(t)
	}
}

// A leaf's references go over when it is copied, and no count is greater on the way than ahead or behind.
func TestABlockWithTheGreatestCount(t *testing.T) {
	for _, committed := range []bool{false, true} {
		b := made(t, 64, 1)
		a := b.putsData(t, "much")
		for i := range 9 {
			b.puts(t, 0, dataKey(10*i), "x")
		}
		b.puts(t, 0, dataKey(0), naming(a))
		for b.p.Count(a) < api.MaxCount {
			b.refs(t, a)
			b.own[a]++
		}
		if committed {
			b.commits(t)
		}
		b.puts(t, 0, dataKey(1), "beside it")
		b.sound(t)
		for i := range 9 {
			b.puts(t, 0, dataKey(2+i), "splits the leaf")
			b.sound(t)
		}
		for i := range 9 {
			b.deletes(t, 0, dataKey(2+i))
			b.sound(t)
		}
		b.holds(t, 0)
		b.clone().refusesPut(t, b.trees[0].root, dataKey(1), "another", api.ErrLong) // the copy of the leaf would be one too many
		b.puts(t, 0, dataKey(0), "another")                                          // the leaf that is copied goes on referencing the block, the copy does not
		b.sound(t)
		b.puts(t, 1, dataKey(0), "another")
		b.sound(t)
	}
}

// A tree that is alone in a new pool is changed where it is.
func TestNewNodesAreChangedInPlace(t *testing.T) {
	for i, shape := range [][][]int{{{5}}, {{2}, {4}}, {{3}, {7}, {5}}, {{2}, {7}, {7}, {5}}} {
		b := planted(t, shape, uint64(i))
		nodes := slices.Sorted(maps.Keys(b.walked(t).nodes))
		for _, k := range b.sampled(20) {
			root, free := b.trees[0].root, b.p.Free()
			b.puts(t, 0, behind(k), "comes")
			b.deletes(t, 0, behind(k))
			b.sound(t)
			if b.trees[0].root != root || b.p.Free() != free || !slices.Equal(slices.Sorted(maps.Keys(b.walked(t).nodes)), nodes) {
				t.Errorf("%s: root %d, %d are free, not %d, %d", b.what, b.trees[0].root, b.p.Free(), root, free)
			}
		}
	}
}

// P11.4

// Each tree has what it should, whatever is done to those with which it has nodes in common.
func TestTreesThatShareNodes(t *testing.T) {
	t.Parallel()
	for seed := range uint64(6) {
		t.Run(fmt.Sprint(seed), func(t *testing.T) {
			t.Parallel()
			w := &work{b: made(t, 1024, 1), r: rand.New(rand.NewPCG(11, seed)), ranks: []int{30, 60, 200, 400, 90, 700}[seed]}
			for i := range 1500 {
				w.b.what = fmt.Sprint("seed ", seed, ", step ", i)
				w.step(t)
				if i%5 == 0 || w.ranks < 100 {
					w.b.sound(t)
				}
			}
			w.ends(t)
		})
	}
}

// work does one thing after another to some trees, and commits.
type work struct {
	b     *bench
	r     *rand.Rand
	ranks int
	was   []*tree // as they were at the last commit
	gen   int
	grows bool
}

func (w *work) step(t *testing.T) {
	t.Helper()
	b, i := w.b, w.r.IntN(len(w.b.trees))
	if w.r.IntN(60) == 0 {
		w.grows = !w.grows
	}
	if b.p.Free() < 60 {
		w.makesRoom(t)
	}
	switch x := w.r.IntN(100); {
	case x < 2 && len(b.trees) < 6:
		b.holds(t, i)
	case x < 4 && len(b.trees) > 1:
		w.drops(t, i)
	case x < 6:
		w.commits(t)
	case x < 7 && w.gen > 0:
		w.remembers(t)
	case x < 70 == w.grows:
		k := ranked(w.r.IntN(w.ranks))
		b.puts(t, i, k, w.value(t, k))
		b.gets(t, i, k)
	default:
		w.deletes(t, i, ranked(w.r.IntN(w.ranks)))
	}
}

func (w *work) value(t *testing.T, k api.Key) string {
	t.Helper()
	g := &planter{b: w.b, r: w.r} // which has no blocks yet that values reference, so that each is of one value
	return g.value(t, k)
}

func (w *work) deletes(t *testing.T, i int, k api.Key) {
	t.Helper()
	if _, is := w.b.trees[i].row[k]; is {
		w.b.deletes(t, i, k)
	} else {
		w.b.refusesDelete(t, w.b.trees[i].root, k, api.ErrNone)
	}
}

// drops lets a tree go, item by item.
func (w *work) drops(t *testing.T, i int) {
	t.Helper()
	for _, k := range w.b.trees[i].keys() {
		w.b.deletes(t, i, k)
	}
	w.b.sound(t)
	w.b.trees = slices.Delete(w.b.trees, i, i+1)
}

func (w *work) makesRoom(t *testing.T) {
	t.Helper()
	for len(w.b.trees) > 1 {
		w.drops(t, len(w.b.trees)-1)
	}
	for _, k := range w.b.trees[0].keys() {
		w.b.deletes(t, 0, k)
	}
	w.commits(t)
}

// commits asks for each sector that was in use to be what it was, and mounts.
func (w *work) commits(t *testing.T) {
	t.Helper()
	b := w.b
	was := map[int][]byte{}
	for a := range b.d.Size() {
		if b.p.Count(a) > 0 && !b.p.Fresh(a) {
			was[a], _ = b.d.Read(a)
		}
	}
	b.commits(t)
	for a, v := range was {
		if now, e := b.d.Read(a); !bytes.Equal(now, v) || e != api.OK {
			t.Fatalf("%s: sector %d was %x and is %x, %d", b.what, a, v, now, e)
		}
	}
	if w.r.IntN(2) == 0 {
		b.mounts(t)
	}
	w.was, w.gen = b.clone().trees, b.p.Super().Gen
	b.sound(t)
}

// remembers asks for the last commit to be on the disk still.
func (w *work) remembers(t *testing.T) {
	t.Helper()
	c := *w.b
	c.d, c.trees, c.what = w.b.d.Clone(), w.was, w.b.what+", as it was committed"
	c.mounts(t)
	if c.p.Super().Gen != w.gen {
		t.Fatalf("%s: generation %d, not %d", c.what, c.p.Super().Gen, w.gen)
	}
	for _, tr := range c.trees {
		if l, e := find.Scan(c.p, tr.root, least, greatest, math.MaxInt); !sameItems(l, tr.items()) || e != api.OK {
			t.Fatalf("%s: %d items, %d, not %d", c.what, len(l), e, len(tr.row))
		}
	}
}

func (w *work) ends(t *testing.T) {
	t.Helper()
	w.makesRoom(t)
	if free := made(t, 1024, 0).p.Free(); w.b.p.Free() != free {
		t.Errorf("%s: %d are free, not %d", w.b.what, w.b.p.Free(), free)
	}
}

// Of two trees that are one, both are changed everywhere; and then there are two.
func TestTwoTreesGoTheirWays(t *testing.T) {
	t.Parallel()
	for i, shape := range [][][]int{{{6}}, {{2}, {3}}, {{12}, {6}}, {{2}, {6}, {3}}, {{2}, {12}, {6}}, {{2}, {6}, {6}, {3}}} {
		for _, committed := range []bool{false, true} {
			b := planted(t, shape, uint64(i))
			if committed {
				b.remounts(t)
			}
			b.holds(t, 0)
			for j, k := range b.trees[0].keys() {
				b.what = fmt.Sprint(shape, " ", j)
				b.deletes(t, j%2, k)
				b.puts(t, 1-j%2, behind(k), fmt.Sprint(j))
				if j%(1+len(b.trees[0].row)/30) == 0 {
					b.sound(t)
				}
			}
			b.sound(t)
			for i, tr := range b.trees {
				for _, k := range tr.keys() {
					b.deletes(t, i, k)
				}
				b.sound(t)
			}
		}
	}
}

// A new node of a tree that another one has is none to be changed, even if its own count is 1.
func TestANodeBelowOneThatIsShared(t *testing.T) {
	b := planted(t, [][]int{{2}, {6}, {4}}, 3)
	b.holds(t, 0)
	frozen := map[int]string{}
	for a := range b.walked(t).nodes {
		frozen[a] = b.content(a)
	}
	for i, k := range b.trees[0].keys() {
		if i%2 == 0 {
			b.puts(t, 0, k, "another")
		} else {
			b.deletes(t, 0, k)
		}
		b.sound(t)
		b.stillFrozen(t, frozen)
	}
}

// P11.3

// With 17 blocks free each call has enough, with fewer it may not; it tells so then.
func TestFreeBlocks(t *testing.T) {
	t.Parallel()
	for i, shape := range slices.Concat([][][]int{{{6}}, {{2}, {3}}, {{12}, {6}}}, middle[:2], great) {
		t.Run(shaped(shape), func(t *testing.T) {
			t.Parallel()
			f := func(b *bench) {
				for free := 17; free >= 0; free-- {
					if len(shape) > 2 && free%4 != 1 && free > 1 {
						continue
					}
					c := b.clone()
					c.fills(t, free)
					c.what = fmt.Sprint(b.what, ", ", free, " are free")
					c.needs(t, free)
				}
			}
			b := planted(t, shape, uint64(i))
			f(b)
			c := b.also("held")
			c.holds(t, 0)
			f(c)
			b.commits(t)
			b.what += ", committed"
			f(b)
			ends(t, b, f)
		})
	}
}

// needs tries each call with what is free: what it has made then is as it should be.
func (b *bench) needs(t *testing.T, free int) {
	t.Helper()
	for _, k := range b.sampled(4) {
		for i, x := range []api.Key{k, behind(k), k} {
			c := b.clone()
			tr := c.trees[0]
			root, e := 0, api.OK
			if i < 2 {
				root, e = edit.Put(c.p, tr.root, x, []byte("another"))
				tr.row[x] = "another"
			} else {
				root, e = edit.Delete(c.p, tr.root, x)
				delete(tr.row, x)
			}
			if e == api.ErrSpace && free < 17 && root == 0 {
				continue
			}
			if e != api.OK || free-c.p.Free() > 17 {
				t.Fatalf("%s: %d, %d, with %d free then", c.what, root, e, c.p.Free())
			}
			tr.root = root
			if len(tr.row) < 100 || free == 17 {
				c.sound(t)
			}
		}
	}
}

// When nothing is free, a tree that is committed or shared can't be changed, and one that is neither can be, where no node is split.
func TestNothingFree(t *testing.T) {
	for i, shape := range [][][]int{{{5}}, {{2}, {4}}, {{3}, {7}, {5}}, {{2}, {7}, {7}, {5}}} {
		b := planted(t, shape, uint64(i))
		l := b.sampled(20)
		b.fills(t, 0)
		for _, k := range l {
			b.puts(t, 0, behind(k), "new")
			b.puts(t, 0, behind(k), "another")
			b.deletes(t, 0, behind(k))
			b.sound(t)
		}
		for _, committed := range []bool{false, true} {
			c := b.clone()
			if committed {
				c.commits(t)
			} else {
				c.holds(t, 0)
			}
			for _, k := range l {
				q := c.clone()
				q.refusesPut(t, q.trees[0].root, k, "another", api.ErrSpace)
				q = c.clone()
				q.refusesPut(t, q.trees[0].root, behind(k), "new", api.ErrSpace)
				q = c.clone()
				q.refusesDelete(t, q.trees[0].root, k, api.ErrSpace)
				c.refusesPut(t, 0, k, "a tree", api.ErrSpace)
			}
		}
	}
}

// A split leaf needs a block, and a root that is split two; which there may be or not.
func TestASplitWithFewFree(t *testing.T) {
	for free := range 5 {
		b := planted(t, [][]int{{6}}, 1)
		b.fills(t, free)
		k := b.trees[0].keys()[2]
		if free < 2 {
			b.refusesPut(t, b.trees[0].root, behind(k), "x", api.ErrSpace)
			continue
		}
		b.puts(t, 0, behind(k), "x")
		b.sound(t)
		if b.p.Free() != free-2 {
			t.Errorf("%d are free, not %d", b.p.Free(), free-2)
		}
	}
}

// A tree is filled up and emptied on a disk that is full again and again: what is given back is there after a commit.
func TestAFullDisk(t *testing.T) {
	t.Parallel()
	b := made(t, 64, 1)
	r := rand.New(rand.NewPCG(11, 64))
	full := 0
	for i := range 3000 {
		b.what = fmt.Sprint("step ", i)
		k := ranked(r.IntN(300))
		_, is := b.trees[0].row[k]
		c := b.clone()
		root, e := 0, api.OK
		if is && i/500%2 == 1 {
			root, e = edit.Delete(c.p, c.trees[0].root, k)
			delete(c.trees[0].row, k)
		} else {
			root, e = edit.Put(c.p, c.trees[0].root, k, []byte("full"))
			c.trees[0].row[k] = "full"
		}
		switch {
		case e == api.OK:
			c.trees[0].root = root
			b = c
			if i%10 == 0 {
				b.sound(t)
			}
		case e == api.ErrSpace && root == 0 && b.p.Free() < 17:
			full++
			b.sound(t)
		default:
			t.Fatalf("%s: %d, %d, with %d free", b.what, root, e, b.p.Free())
		}
		if i%50 == 0 {
			b.commits(t)
		}
	}
	if full == 0 {
		t.Error("the disk was never full")
	}
}

// P11.2

// spoils turns a byte of a block on the disk while f runs.
func (b *bench) spoils(t *testing.T, a int, f func()) {
	t.Helper()
	at, mask := a*7%256, 1+a*3%255
	for i := range 2 {
		if e := b.d.Corrupt(a, at, mask); e != api.OK {
			t.Fatalf("%s: Corrupt(%d, %d, %d): %d", b.what, a, at, mask, e)
		}
		if i == 0 {
			f()
		}
	}
}

func (b *bench) way(t *testing.T, k api.Key) []int {
	t.Helper()
	l, e := find.Path(b.p, b.trees[0].root, k)
	if e != api.OK {
		t.Fatalf("%s: Path(%v): %d", b.what, k, e)
	}
	return l
}

// fails asks all calls for a key for an error.
func (b *bench) fails(t *testing.T, k api.Key, want api.Errno) {
	t.Helper()
	root := b.trees[0].root
	for _, x := range []api.Key{k, behind(k)} {
		c := b.clone()
		c.refusesPut(t, root, x, "x", want)
		c = b.clone()
		c.refusesDelete(t, root, x, want)
	}
	b.clone().refusesPut(t, root, least, "x", api.ErrArg)
}

var sick = [][][]int{{{3}}, {{2}, {3}}, {{12}, {6}}, {{2}, {6}, {3}}, {{2}, {12}, {6}}, {{2}, {6}, {6}, {3}}}

func TestASpoiltNodeOnTheWay(t *testing.T) {
	t.Parallel()
	for i, shape := range sick {
		b := planted(t, shape, uint64(i))
		b.remounts(t)
		for _, k := range b.sampled(12) {
			for _, a := range b.way(t, k) {
				b.spoils(t, a, func() { b.fails(t, k, api.ErrIO) })
			}
		}
		b.sound(t)
	}
}

func TestAReleasedNodeOnTheWay(t *testing.T) {
	for i, shape := range sick {
		b := planted(t, shape, uint64(i))
		for range 2 {
			for _, k := range b.sampled(12) {
				for _, a := range b.way(t, k) {
					c := b.clone()
					c.unrefs(t, a)
					c.fails(t, k, api.ErrArg)
				}
			}
			b.commits(t)
		}
	}
}

// Of two errors on the way that of the upper node is told.
func TestTheFirstErrorIsTold(t *testing.T) {
	for i, shape := range sick[1:] {
		b := planted(t, shape, uint64(i))
		b.remounts(t)
		for _, k := range b.sampled(5) {
			way := b.way(t, k)
			for j, a := range way {
				for _, other := range way[j+1:] {
					c := b.clone()
					c.unrefs(t, other)
					c.spoils(t, a, func() { c.fails(t, k, api.ErrIO) })
					c = b.clone()
					c.unrefs(t, a)
					c.spoils(t, other, func() { c.fails(t, k, api.ErrArg) })
				}
			}
		}
	}
}

// A Put reads the nodes on the way alone, and so does a Delete of a key that there is not.
func TestASpoiltNodeElsewhere(t *testing.T) {
	for i, shape := range sick[1:] {
		b := planted(t, shape, uint64(i))
		b.remounts(t)
		nodes := slices.Sorted(maps.Keys(b.walked(t).nodes))
		for _, k := range b.sampled(6) {
			way := b.way(t, k)
			c := b.clone()
			for _, a := range nodes {
				if !slices.Contains(way, a) {
					c.d.Corrupt(a, 30, 1)
				}
			}
			q := c.clone()
			q.puts(t, 0, k, "another")
			q = c.clone()
			q.puts(t, 0, behind(k), "new")
			c.refusesDelete(t, c.trees[0].root, behind(k), api.ErrNone)
			for _, a := range nodes {
				if !slices.Contains(way, a) {
					c.d.Corrupt(a, 30, 1)
				}
			}
		}
		b.sound(t)
	}
}

// A leaf that would have too little takes from one beside, or can't.
func TestASpoiltNeighbour(t *testing.T) {
	for i, shape := range [][][]int{{{2}, {3}}, {{2}, {3, 6}}, {{2}, {6, 3}}, {{3}, {3}}, {{12}, {3}}, {{2}, {6}, {3}}, {{2}, {6}, {6}, {3}}} {
		b := planted(t, shape, uint64(i))
		b.remounts(t)
		for _, k := range b.sampled(12) {
			way := b.way(t, k)
			leaf, _ := b.p.Node(way[len(way)-1])
			above, _ := b.p.Node(way[len(way)-2])
			at := slices.IndexFunc(above.Kids, func(x api.Kid) bool { return x.Addr == way[len(way)-1] })
			var beside []int
			for _, j := range []int{at - 1, at + 1} {
				if j >= 0 && j < len(above.Kids) {
					beside = append(beside, above.Kids[j].Addr)
				}
			}
			for _, a := range beside {
				b.d.Corrupt(a, 30, 1)
			}
			c := b.clone()
			if len(leaf.Items) == 3 {
				c.refusesDelete(t, c.trees[0].root, k, api.ErrIO)
			} else {
				c.deletes(t, 0, k)
			}
			for _, a := range beside {
				b.d.Corrupt(a, 30, 1)
			}
		}
	}
}

func off(d *drive.Drive) {
	d.Fuse(0)
	d.Flush()
}

// Without power there is what is new, and what is not new isn't.
func TestThePowerOff(t *testing.T) {
	for i, shape := range sick {
		states(t, shape, uint64(i), func(b *bench) {
			was := b.d.Clone()
			k := b.trees[0].keys()[0]
			fresh := true
			for a := range b.walked(t).nodes {
				fresh = fresh && b.p.Fresh(a)
			}
			way := b.way(t, k)
			off(b.d)
			c := b.clone()
			switch {
			case fresh:
				c.puts(t, 0, k, "another")
				c.deletes(t, 0, k)
			case slices.ContainsFunc(way, func(a int) bool { return !b.p.Fresh(a) }):
				c.fails(t, k, api.ErrPower)
			}
			*b.d = *was
			b.sound(t)
			c.sound(t)
		})
	}
}

func TestARootThatIsNoNode(t *testing.T) {
	for _, sectors := range []int{32, 119, 2048} {
		b := made(t, sectors, 0)
		leaf := b.putsNode(t, api.Node{Items: []api.Item{{Key: ranked(5)}}})
		data := b.putsData(t, "ab")
		log, _ := b.p.PutBytes(api.BlockLog, nil)
		gone := b.putsNode(t, api.Node{Items: []api.Item{{Key: ranked(5)}}})
		b.unrefs(t, gone)
		want := api.ErrArg
		refuses := func(a int, want api.Errno) {
			t.Helper()
			for _, k := range []api.Key{first, ranked(5), last} {
				b.refusesPut(t, a, k, "ab", want)
				b.refusesDelete(t, a, k, want)
			}
			b.refusesPut(t, a, least, "ab", api.ErrArg)
			b.refusesPut(t, a, first, string(make([]byte, 29)), api.ErrArg)
			b.refusesDelete(t, a, least, want)
		}
		for range 3 {
			b.unchanged(t, func() {
				for _, a := range []int{math.MinInt, -sectors, -2, -1, 1, 2, 3, leaf - 1, gone, sectors - 1, sectors, sectors + 1, 2048, 2049, 65536 + leaf, 1<<32 + leaf, math.MaxInt} {
					refuses(a, api.ErrArg)
				}
				refuses(data, want)
				refuses(log, want)
			})
			b.remounts(t)
			want = api.ErrIO
		}
		off(b.d)
		refuses(leaf, api.ErrPower)
		refuses(gone, api.ErrArg)
	}
}

// Blocks that name each other in a ring, or whose levels don't fit, are no tree; every call of them ends.
func TestWhatIsNoTree(t *testing.T) {
	for level := 1; level < 8; level++ {
		b := made(t, 64, 1)
		two := func(level, a int) api.Node {
			return api.Node{Level: level, Kids: []api.Kid{{Key: ranked(1), Addr: a}, {Key: ranked(9), Addr: a}}}
		}
		a := b.putsNode(t, two(level, 1))
		other := b.putsNode(t, two(max(level-1, 1), a))
		for _, to := range []int{a, other} {
			c := b.clone()
			c.p.SetNode(a, two(level, to))
			c.trees[0].root = a
			for _, k := range []api.Key{first, ranked(1), ranked(9), ranked(99)} {
				c.fails(t, k, api.ErrIO)
			}
		}
		for below := range 8 {
			if below == level-1 {
				continue
			}
			c := b.clone()
			n := two(below, 1)
			if below == 0 {
				n = api.Node{Items: []api.Item{{Key: ranked(1)}}}
			}
			c.p.SetNode(a, two(level, c.putsNode(t, n)))
			c.trees[0].root = a
			c.fails(t, ranked(1), api.ErrIO)
		}
	}
}

// R6, R7

func TestWhatIsHandedIn(t *testing.T) {
	t.Parallel()
	for i, shape := range [][][]int{{{1}}, {{6}}, {{2}, {3}}, {{12}, {6}}, {{2}, {6}, {3}}} {
		states(t, shape, uint64(i), func(b *bench) {
			c := b.clone()
			for j, k := range c.sampled(8) {
				for _, x := range []api.Key{k, behind(k)} {
					s := string(bytes.Repeat([]byte{byte(200 + j)}, j*5%29))
					v := lent.Bytes(s)
					root, e := edit.Put(c.p, c.trees[0].root, x, v)
					if e != api.OK || !lent.Untouched(v, s) {
						t.Fatalf("%s: Put: %d, and what was handed in is %x", c.what, e, v[:cap(v)])
					}
					lent.Scribble(v)
					c.trees[0].root, c.trees[0].row[x] = root, s
					c.sound(t)
				}
			}
			long := lent.Bytes(string(make([]byte, 29)))
			edit.Put(c.p, c.trees[0].root, first, long)
			edit.Put(c.p, c.trees[0].root, least, long[:4])
			if !lent.Untouched(long, string(make([]byte, 29))) {
				t.Errorf("%s: what was handed in is %x", c.what, long[:cap(long)])
			}
		})
	}
}

// What was told of a tree stays as it was told.
func TestWhatWasToldOfATree(t *testing.T) {
	b := planted(t, [][]int{{2}, {6}, {3}}, 5)
	var told, want []api.Node
	for a := range b.walked(t).nodes {
		n, _ := b.p.Node(a)
		told = append(told, n)
		n, _ = b.p.Node(a)
		want = append(want, n)
	}
	l, _ := find.Scan(b.p, b.trees[0].root, least, greatest, math.MaxInt)
	all := b.trees[0].items()
	for _, k := range b.trees[0].keys() {
		b.puts(t, 0, behind(k), "new")
		b.puts(t, 0, k, "another")
		b.deletes(t, 0, k)
	}
	if !reflect.DeepEqual(told, want) || !sameItems(l, all) {
		t.Errorf("what was told became %v, %v", told, l)
	}
}

// A clone goes its own way, with its trees.
func TestClones(t *testing.T) {
	t.Parallel()
	for i, shape := range [][][]int{{{6}}, {{2}, {3}}, {{2}, {6}, {3}}, {{12}, {6}}} {
		states(t, shape, uint64(i), func(b *bench) {
			c := b.clone()
			b.unchanged(t, func() {
				for _, k := range c.trees[0].keys() {
					c.puts(t, 0, behind(k), "new")
					c.deletes(t, 0, k)
				}
			})
			c.sound(t)
			q := b.clone()
			c.unchanged(t, func() {
				for _, k := range q.trees[0].keys() {
					q.deletes(t, 0, k)
				}
			})
			q.sound(t)
			b.sound(t)
		})
	}
}

// The same calls make the same of the same.
func TestTheSameAgain(t *testing.T) {
	t.Parallel()
	for i, shape := range [][][]int{{{6}}, {{2}, {6}, {3}}, {{12}, {6}}, {{2}, {12}, {6}}} {
		states(t, shape, uint64(i), func(b *bench) {
			var first []any
			for range 3 {
				c := b.clone()
				for j, k := range c.sampled(20) {
					c.puts(t, 0, behind(k), fmt.Sprint(j))
					c.deletes(t, 0, k)
				}
				now := append(c.picture(), c.trees[0].root)
				if first == nil {
					first = now
				}
				if !reflect.DeepEqual(now, first) {
					t.Errorf("%s: the same calls made something else", c.what)
				}
			}
		})
	}
}
