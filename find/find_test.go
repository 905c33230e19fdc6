package find_test

import (
	"bytes"
	"cmp"
	"fmt"
	"math"
	"math/rand/v2"
	"reflect"
	"slices"
	"testing"

	"cambium/api"
	"cambium/drive"
	"cambium/find"
	"cambium/lent"
	"cambium/pool"
)

// least and greatest are keys that are ahead of and behind all that may be, and of all other numbers too.
var (
	least    = api.Key{Obj: math.MinInt, Kind: math.MinInt, Off: math.MinInt}
	greatest = api.Key{Obj: math.MaxInt, Kind: math.MaxInt, Off: math.MaxInt}
)

// ranked is the key of a rank from 1 on: keys rise as ranks do, in each of their numbers.
func ranked(rank int) api.Key {
	return api.Key{Obj: rank / 12, Kind: 2 + rank/4%3, Off: rank % 4 * 5}
}

func compared(a, b api.Key) int {
	return cmp.Or(cmp.Compare(a.Obj, b.Obj), cmp.Compare(a.Kind, b.Kind), cmp.Compare(a.Off, b.Off))
}

// tree is one as the chapter tells it: a node, and what is below it.
type tree struct {
	a    int
	n    api.Node
	kids []*tree
	all  []api.Item // kept, since it is asked for time and again
}

func (tr *tree) root() int {
	if tr == nil {
		return 0
	}
	return tr.a
}

func (tr *tree) height() int {
	if tr == nil {
		return 0
	}
	return tr.n.Level + 1
}

func (tr *tree) least() api.Key {
	for len(tr.kids) > 0 {
		tr = tr.kids[0]
	}
	return tr.n.Items[0].Key
}

// nodes are all of them, each ahead of those below it.
func (tr *tree) nodes() []*tree {
	if tr == nil {
		return nil
	}
	l := []*tree{tr}
	for _, kid := range tr.kids {
		l = append(l, kid.nodes()...)
	}
	return l
}

func (tr *tree) items() []api.Item {
	if tr == nil {
		return nil
	}
	if tr.all == nil {
		for _, x := range tr.nodes() {
			tr.all = append(tr.all, x.n.Items...)
		}
	}
	return slices.Clip(tr.all)
}

// get is what is told of a key.
func (tr *tree) get(k api.Key) ([]byte, api.Errno) {
	for _, x := range tr.items() {
		if x.Key == k {
			return x.Value, api.OK
		}
	}
	return nil, api.ErrNone
}

// below is the kid below which a key is sought: the last one whose key is at most that, or the first one.
func (tr *tree) below(k api.Key) int {
	at := 0
	for i, x := range tr.n.Kids {
		if compared(x.Key, k) <= 0 {
			at = i
		}
	}
	return at
}

// way are the nodes in which a key is sought.
func (tr *tree) way(k api.Key) []*tree {
	if tr == nil {
		return nil
	}
	l := []*tree{tr}
	for len(tr.kids) > 0 {
		tr = tr.kids[tr.below(k)]
		l = append(l, tr)
	}
	return l
}

// span is what is asked of a Scan.
type span struct {
	from, to api.Key
	most     int
}

// within are all the items of a tree that are in a span, be they wanted or not.
func (s span) within(tr *tree) []api.Item {
	l := tr.items()
	for len(l) > 0 && compared(l[0].Key, s.from) < 0 {
		l = l[1:]
	}
	for i, x := range l {
		if compared(x.Key, s.to) > 0 {
			return l[:i]
		}
	}
	return l
}

func (s span) items(tr *tree) []api.Item {
	l := s.within(tr)
	return l[:max(0, min(len(l), s.most))]
}

// reads are the nodes that a Scan reads, in their order: the root, and of each the kids from that of from on whose key is at most to, till there are enough items ahead of them.
func (s span) reads(tr *tree) []*tree {
	if tr == nil || s.most < 1 {
		return nil
	}
	return s.under(tr, s.within(tr))
}

func (s span) under(tr *tree, all []api.Item) []*tree {
	l := []*tree{tr}
	for i, kid := range tr.kids {
		k := tr.n.Kids[i].Key
		if i >= tr.below(s.from) && compared(k, s.to) <= 0 && ahead(all, k) < s.most {
			l = append(l, s.under(kid, all)...)
		}
	}
	return l
}

// ahead is how many items are ahead of a key.
func ahead(l []api.Item, k api.Key) int {
	n := 0
	for n < len(l) && compared(l[n].Key, k) < 0 {
		n++
	}
	return n
}

// planter lays trees down.
type planter struct {
	p    *pool.Pool
	r    *rand.Rand
	rank int // of the last key
}

// plant lays down a tree whose root has so many kids, and so on, down to a leaf's items; 0 is any number that may be.
func (g *planter) plant(t *testing.T, shape []int) *tree {
	t.Helper()
	if len(shape) == 0 {
		return nil
	}
	tr := &tree{n: api.Node{Level: len(shape) - 1}}
	for range g.many(shape) {
		if len(shape) == 1 {
			tr.n.Items = append(tr.n.Items, g.item())
			continue
		}
		kid := g.plant(t, shape[1:])
		tr.kids = append(tr.kids, kid)
		tr.n.Kids = append(tr.n.Kids, api.Kid{Key: kid.least(), Addr: kid.a})
	}
	tr.a = puts(t, g.p, tr.n)
	return tr
}

func (g *planter) many(shape []int) int {
	switch {
	case shape[0] != 0:
		return shape[0]
	case len(shape) == 1:
		return 1 + g.r.IntN(6)
	}
	return 2 + g.r.IntN(11)
}

// item is the next one: right behind the last, or with keys between; some of them look as if they named a block.
func (g *planter) item() api.Item {
	g.rank += 1 + g.r.IntN(3)
	x := api.Item{Key: ranked(g.rank), Value: make([]byte, g.r.IntN(29))}
	for i := range x.Value {
		x.Value[i] = byte(g.r.IntN(256))
	}
	if x.Key.Kind == api.ItemData && g.rank%2 == 0 {
		x.Value = []byte{1, byte(g.rank >> 8), byte(g.rank)}
	}
	return x
}

// probes are keys that there are and that there are not: ahead of all, between, behind all, and such as may not be.
func (g *planter) probes() []api.Key {
	l := []api.Key{
		least, greatest, {}, {Obj: -1}, {Kind: -1}, {Off: -1}, {Obj: api.MaxNumber, Kind: 255, Off: api.MaxNumber},
		{Kind: 256}, {Off: math.MaxInt}, {Obj: 1, Kind: math.MinInt}, {Obj: 1, Kind: math.MaxInt, Off: -7}, {Obj: 1 << 40}, {Obj: 2, Kind: 3, Off: -1},
	}
	for rank := range g.rank + 4 {
		k := ranked(rank)
		l = append(l, k)
		if rank%5 == 0 {
			k.Off++
			l = append(l, k)
		}
	}
	return l
}

func puts(t *testing.T, p *pool.Pool, n api.Node) int {
	t.Helper()
	a, e := p.PutNode(n)
	if e != api.OK {
		t.Fatalf("PutNode(%+v): %d", n, e)
	}
	return a
}

func made(t *testing.T, sectors int) (*pool.Pool, *drive.Drive) {
	t.Helper()
	d, e := drive.New(sectors)
	if e != api.OK {
		t.Fatalf("New: %d", e)
	}
	p, e := pool.Format(d)
	if e != api.OK {
		t.Fatalf("Format: %d", e)
	}
	return p, d
}

func commits(t *testing.T, p *pool.Pool) {
	t.Helper()
	if e := p.Commit(); e != api.OK {
		t.Fatalf("Commit: %d", e)
	}
}

func mounted(t *testing.T, d *drive.Drive) *pool.Pool {
	t.Helper()
	p, e := pool.Mount(d)
	if e != api.OK {
		t.Fatalf("Mount: %d", e)
	}
	return p
}

// stand is where a tree stands.
type stand struct {
	what string
	p    *pool.Pool
	d    *drive.Drive
	tr   *tree
	keys []api.Key
	r    *rand.Rand
}

func planted(t *testing.T, shape []int, seed uint64) *stand {
	t.Helper()
	sectors := 2048
	if !slices.Contains(shape, 0) && len(shape) < 4 {
		sectors = 256
	}
	p, d := made(t, sectors)
	g := &planter{p, rand.New(rand.NewPCG(10, seed)), 2}
	tr := g.plant(t, shape)
	return &stand{fmt.Sprint(shape, " new"), p, d, tr, g.probes(), g.r}
}

// stands are those of a tree that is new, that is committed, that is mounted, and that has a new root above committed kids.
func stands(t *testing.T, shape []int, seed uint64, f func(s *stand)) {
	t.Helper()
	s := planted(t, shape, seed)
	f(s)
	commits(t, s.p)
	s.what = fmt.Sprint(shape, " committed")
	f(s)
	s.p = mounted(t, s.d)
	s.what = fmt.Sprint(shape, " mounted")
	f(s)
	if s.tr == nil || len(s.tr.kids) == 0 {
		return
	}
	top := *s.tr
	top.a = puts(t, s.p, top.n)
	s.tr, s.what = &top, fmt.Sprint(shape, " with a new root")
	f(s)
}

// little are shapes of few nodes, great ones of many: of the least and the greatest number of items and kids, of what a balanced tree has at least, and of any.
var (
	little = [][]int{{}, {1}, {2}, {3}, {6}, {2, 1}, {2, 6}, {3, 3}, {2, 2, 1}, {2, 3, 2}, {2, 2, 2, 1}}
	great  = [][]int{{12, 1}, {12, 6}, {4, 2, 6}, {2, 6, 3}, {2, 12, 6}, {12, 2, 1}, {12, 12, 6}, {2, 6, 6, 3}, {2, 2, 2, 2, 2, 2, 2, 1}, {2, 2, 2, 2, 2, 2, 2, 6}, {3, 2, 2, 2, 3, 0}, {0, 0}, {0, 0, 0}, {2, 0, 0, 0}}
)

// everywhere has stands of its own for each test, so that these can run side by side.
func everywhere(t *testing.T, f func(s *stand)) {
	t.Helper()
	t.Parallel()
	for i, shape := range slices.Concat(little, great) {
		stands(t, shape, uint64(i), f)
	}
}

// some picks as many keys as there are, or fewer.
func (s *stand) some(most int) []api.Key {
	l := slices.Clone(s.keys)
	s.r.Shuffle(len(l), func(i, j int) { l[i], l[j] = l[j], l[i] })
	return l[:min(most, len(l))]
}

// spans are some, with each number of items that matters.
func (s *stand) spans(most int) []span {
	var l []span
	froms := s.some(most)
	for _, from := range froms {
		for _, to := range append(s.some(most), from, greatest) {
			n := len(span{from, to, 0}.within(s.tr))
			for _, most := range []int{math.MinInt, -1, 0, 1, 2, n - 1, n, n + 1, s.r.IntN(n + 1), math.MaxInt} {
				l = append(l, span{from, to, most})
			}
		}
	}
	return append(l, span{least, greatest, math.MaxInt}, span{greatest, least, math.MaxInt}, span{least, least, 9}, span{greatest, greatest, 9})
}

func sameItems(a, b []api.Item) bool {
	return slices.EqualFunc(a, b, func(x, y api.Item) bool { return x.Key == y.Key && bytes.Equal(x.Value, y.Value) })
}

// The four calls, each held against what it should answer. Beside an error there is nothing.

func (s *stand) gets(t *testing.T, k api.Key, want []byte, we api.Errno) {
	t.Helper()
	if v, e := find.Get(s.p, s.tr.root(), k); e != we || e == api.OK && !bytes.Equal(v, want) || e != api.OK && v != nil {
		t.Errorf("%s: Get(%v): %x, %d, not %x, %d", s.what, k, v, e, want, we)
	}
}

func (s *stand) scans(t *testing.T, x span, want []api.Item, we api.Errno) {
	t.Helper()
	l, e := find.Scan(s.p, s.tr.root(), x.from, x.to, x.most)
	if e != we || e == api.OK && !sameItems(l, want) || e != api.OK && l != nil {
		t.Errorf("%s: Scan(%+v): %d items %v, %d, not %d items %v, %d", s.what, x, len(l), l, e, len(want), want, we)
	}
}

func (s *stand) paths(t *testing.T, k api.Key, want []*tree, we api.Errno) {
	t.Helper()
	l, e := find.Path(s.p, s.tr.root(), k)
	if e != we || e == api.OK && !slices.EqualFunc(l, want, func(a int, x *tree) bool { return a == x.a }) || e != api.OK && l != nil {
		t.Errorf("%s: Path(%v): %v, %d, not %v, %d", s.what, k, l, e, want, we)
	}
}

func (s *stand) isHigh(t *testing.T, want int, we api.Errno) {
	t.Helper()
	if h, e := find.Height(s.p, s.tr.root()); h != want || e != we {
		t.Errorf("%s: Height: %d, %d, not %d, %d", s.what, h, e, want, we)
	}
}

// answers asks all four calls for what the tree has.
func (s *stand) answers(t *testing.T, most int) {
	t.Helper()
	s.isHigh(t, s.tr.height(), api.OK)
	for _, k := range s.some(most) {
		v, e := s.tr.get(k)
		s.gets(t, k, v, e)
		s.paths(t, k, s.tr.way(k), api.OK)
	}
	for _, x := range s.spans(4) {
		s.scans(t, x, x.items(s.tr), api.OK)
	}
}

// fails asks all four calls for what they answer when some nodes can't be read: the error of the first one that is.
func (s *stand) fails(t *testing.T, bad map[int]api.Errno, most int) {
	t.Helper()
	first := func(l []*tree) api.Errno {
		for _, x := range l {
			if bad[x.a] != api.OK {
				return bad[x.a]
			}
		}
		return api.OK
	}
	if e := bad[s.tr.root()]; e != api.OK {
		s.isHigh(t, 0, e)
	} else {
		s.isHigh(t, s.tr.height(), api.OK)
	}
	for _, k := range s.some(most) {
		way := s.tr.way(k)
		v, e := s.tr.get(k)
		if first(way) != api.OK {
			v, e = nil, first(way)
		}
		s.gets(t, k, v, e)
		s.paths(t, k, way, first(way))
	}
	for _, x := range s.spans(most/4 + 1) {
		s.scans(t, x, x.items(s.tr), first(x.reads(s.tr)))
	}
}

// The chapter's example.

func TestTheExample(t *testing.T) {
	p, _ := made(t, 32)
	s := &stand{what: "no items", p: p}
	for _, k := range []api.Key{least, {}, {Obj: 1, Kind: 2, Off: 3}, greatest} {
		s.gets(t, k, nil, api.ErrNone)
		s.scans(t, span{k, k, 9}, nil, api.OK)
		s.scans(t, span{least, greatest, 9}, nil, api.OK)
		s.paths(t, k, nil, api.OK)
	}
	s.isHigh(t, 0, api.OK)
}

// P10.1

func TestGetOfEachKey(t *testing.T) {
	everywhere(t, func(s *stand) {
		values := map[api.Key][]byte{}
		for _, x := range s.tr.items() {
			values[x.Key] = x.Value
		}
		for _, k := range s.keys {
			if v, is := values[k]; is {
				s.gets(t, k, v, api.OK)
			} else {
				s.gets(t, k, nil, api.ErrNone)
			}
		}
	})
}

// An item's key is that of its own numbers alone.
func TestGetOfAKeyThatDiffersInOneNumber(t *testing.T) {
	everywhere(t, func(s *stand) {
		all := s.tr.items()
		for i := 0; i < len(all); i += 1 + len(all)/60 {
			x := all[i]
			for _, by := range []api.Key{{Obj: 1 << 20}, {Obj: -1 << 20}, {Kind: 100}, {Kind: -100}, {Off: 1}, {Off: -1}, {Kind: 256}, {Off: 1 << 32}, {Obj: 1 << 32}} {
				k := api.Key{Obj: x.Key.Obj + by.Obj, Kind: x.Key.Kind + by.Kind, Off: x.Key.Off + by.Off}
				s.gets(t, k, nil, api.ErrNone)
			}
		}
	})
}

func TestGetOfTheEdgesOfKeysAndValues(t *testing.T) {
	p, d := made(t, 32)
	last := api.Key{Obj: api.MaxNumber, Kind: 255, Off: api.MaxNumber}
	a := puts(t, p, api.Node{Items: []api.Item{{}, {Key: api.Key{Off: 1}, Value: make([]byte, 28)}}})
	b := puts(t, p, api.Node{Items: []api.Item{{Key: api.Key{Obj: 1, Kind: 3}, Value: []byte{1, 0, 4}}, {Key: last, Value: bytes.Repeat([]byte{255}, 28)}}})
	root := puts(t, p, api.Node{Level: 1, Kids: []api.Kid{{Addr: a}, {Key: api.Key{Obj: 1, Kind: 3}, Addr: b}}})
	s := &stand{what: "edges", p: p, tr: &tree{a: root}}
	for range 2 {
		s.gets(t, api.Key{}, []byte{}, api.OK)
		s.gets(t, api.Key{Off: 1}, make([]byte, 28), api.OK)
		s.gets(t, api.Key{Obj: 1, Kind: 3}, []byte{1, 0, 4}, api.OK)
		s.gets(t, last, bytes.Repeat([]byte{255}, 28), api.OK)
		s.gets(t, api.Key{Off: 2}, nil, api.ErrNone)
		s.gets(t, api.Key{Off: -1}, nil, api.ErrNone)
		s.gets(t, api.Key{Obj: 1, Kind: 4}, nil, api.ErrNone)
		s.gets(t, api.Key{Obj: api.MaxNumber + 1, Kind: 255, Off: api.MaxNumber}, nil, api.ErrNone)
		commits(t, p)
		s.p = mounted(t, d)
	}
}

// P10.2

func TestScanOfEachSpan(t *testing.T) {
	for i, shape := range little {
		stands(t, shape, uint64(i), func(s *stand) {
			for _, from := range s.keys {
				for _, to := range s.keys {
					n := len(span{from, to, 0}.within(s.tr))
					for _, most := range []int{-1, 0, 1, n - 1, n, n + 1, math.MaxInt} {
						x := span{from, to, most}
						s.scans(t, x, x.items(s.tr), api.OK)
					}
				}
			}
		})
	}
}

func TestScanOfEachNumber(t *testing.T) {
	everywhere(t, func(s *stand) {
		all := s.tr.items()
		for most := -2; most < len(all)+3; most += 1 + len(all)/100 {
			s.scans(t, span{least, greatest, most}, all[:max(0, min(most, len(all)))], api.OK)
		}
		for _, most := range []int{math.MinInt, -1 << 32, 1 << 32, math.MaxInt} {
			s.scans(t, span{least, greatest, most}, all[:max(0, min(most, len(all)))], api.OK)
		}
	})
}

func TestScanOfOneKey(t *testing.T) {
	everywhere(t, func(s *stand) {
		for _, k := range s.some(60) {
			for _, most := range []int{-1, 0, 1, 2, 99} {
				x := span{k, k, most}
				s.scans(t, x, x.items(s.tr), api.OK)
			}
		}
	})
}

func TestScanOfSomeSpans(t *testing.T) {
	everywhere(t, func(s *stand) {
		for _, x := range s.spans(6) {
			s.scans(t, x, x.items(s.tr), api.OK)
		}
	})
}

func TestScanWithToAheadOfFrom(t *testing.T) {
	everywhere(t, func(s *stand) {
		l := s.some(30)
		for _, from := range l {
			for _, to := range l {
				if compared(to, from) < 0 {
					s.scans(t, span{from, to, math.MaxInt}, nil, api.OK)
				}
			}
		}
	})
}

// From each item on, and up to each item, of leaves that are left half way or just at their end.
func TestScanOfItemsBetweenTwo(t *testing.T) {
	everywhere(t, func(s *stand) {
		all := s.tr.items()
		for i := 0; i < len(all); i += 1 + len(all)/40 {
			s.scans(t, span{all[i].Key, greatest, 13}, all[i:min(i+13, len(all))], api.OK)
			s.scans(t, span{least, all[i].Key, math.MaxInt}, all[:i+1], api.OK)
			j := min(i+17, len(all)-1)
			s.scans(t, span{all[i].Key, all[j].Key, math.MaxInt}, all[i:j+1], api.OK)
			s.scans(t, span{all[i].Key, all[j].Key, j - i}, all[i:j], api.OK)
		}
	})
}

// spoilt turns a byte of a block on the disk while f runs.
func spoilt(t *testing.T, d *drive.Drive, a int, f func()) {
	t.Helper()
	at, mask := a*7%256, 1+a*3%255
	for i := range 2 {
		if e := d.Corrupt(a, at, mask); e != api.OK {
			t.Fatalf("Corrupt(%d, %d, %d): %d", a, at, mask, e)
		}
		if i == 0 {
			f()
		}
	}
}

func TestASpoiltBlockIsToldOfWhereItIsRead(t *testing.T) {
	everywhere(t, func(s *stand) {
		nodes := s.tr.nodes()
		for i := 0; i < len(nodes); i += 1 + len(nodes)/5 {
			bad := map[int]api.Errno{nodes[i].a: api.ErrIO}
			if s.p.Fresh(nodes[i].a) {
				bad = nil // what is on the disk there is not what is new
			}
			spoilt(t, s.d, nodes[i].a, func() { s.fails(t, bad, 8) })
		}
		s.answers(t, 8)
	})
}

// A node that isn't there any more is no node, whether it was new or not.
func TestAReleasedBlockIsToldOfWhereItIsRead(t *testing.T) {
	everywhere(t, func(s *stand) {
		nodes := s.tr.nodes()
		for i := 0; i < len(nodes); i += 1 + len(nodes)/5 {
			q := *s
			q.p = released(t, s.p, nodes[i].a)
			q.fails(t, map[int]api.Errno{nodes[i].a: api.ErrArg}, 8)
		}
		s.answers(t, 8)
	})
}

// released is a clone in which a block is not.
func released(t *testing.T, p *pool.Pool, a int) *pool.Pool {
	t.Helper()
	q := p.Clone()
	for q.Count(a) > 0 {
		if _, e := q.Unref(a); e != api.OK {
			t.Fatalf("Unref(%d): %d", a, e)
		}
	}
	return q
}

// Of two nodes that can't be read, that which is read first is told of.
func TestTheFirstErrorIsTold(t *testing.T) {
	for i, shape := range [][]int{{2, 1}, {3, 2}, {2, 2, 1}, {3, 2, 2}, {2, 2, 2, 1}} {
		s := planted(t, shape, uint64(i))
		commits(t, s.p)
		for _, x := range s.tr.nodes() {
			for _, y := range s.tr.nodes() {
				if x == y {
					continue
				}
				q := *s
				q.p = released(t, s.p, y.a)
				spoilt(t, s.d, x.a, func() { q.fails(t, map[int]api.Errno{x.a: api.ErrIO, y.a: api.ErrArg}, 12) })
			}
		}
	}
}

// Each Scan of a little tree reads just the nodes that the chapter tells.
func TestScanReadsWhatItNeedsAlone(t *testing.T) {
	for i, shape := range [][]int{{1}, {3}, {2, 1}, {3, 2}, {2, 2, 1}, {2, 3, 2}, {2, 2, 2, 1}} {
		s := planted(t, shape, uint64(i))
		commits(t, s.p)
		for _, x := range s.tr.nodes() {
			spoilt(t, s.d, x.a, func() {
				for _, from := range s.keys {
					for _, to := range s.keys {
						for most := range 6 {
							y, want := span{from, to, most - 1}, api.OK
							if slices.Contains(y.reads(s.tr), x) {
								want = api.ErrIO
							}
							s.scans(t, y, y.items(s.tr), want)
						}
					}
				}
			})
		}
	}
}

// The bounds of what is read, by hand: leaves of 10, 20; 30, 40; 50, 60.
func TestWhichLeavesAScanReads(t *testing.T) {
	p, d := made(t, 32)
	k := func(n int) api.Key { return api.Key{Obj: 7, Kind: 2, Off: n} }
	s := &stand{p: p, d: d, tr: &tree{n: api.Node{Level: 1}}}
	for n := 10; n < 60; n += 20 {
		leaf := &tree{n: api.Node{Items: []api.Item{{Key: k(n), Value: []byte{byte(n)}}, {Key: k(n + 10), Value: []byte{byte(n + 10)}}}}}
		leaf.a = puts(t, p, leaf.n)
		s.tr.kids = append(s.tr.kids, leaf)
		s.tr.n.Kids = append(s.tr.n.Kids, api.Kid{Key: k(n), Addr: leaf.a})
	}
	s.tr.a = puts(t, p, s.tr.n)
	commits(t, p)
	for _, x := range []struct {
		from, to, most int
		reads          string
	}{
		{0, 99, 99, "012"}, {0, 9, 99, ""}, {0, 10, 99, "0"}, {0, 29, 99, "0"}, {0, 30, 99, "01"}, {0, 49, 99, "01"}, {0, 50, 99, "012"},
		{10, 99, 99, "012"}, {25, 99, 99, "012"}, {25, 29, 99, "0"}, {25, 30, 99, "01"}, {29, 30, 1, "01"}, {30, 30, 1, "1"}, {30, 99, 99, "12"}, {45, 49, 9, "1"}, {50, 50, 9, "2"}, {61, 99, 9, "2"}, {61, 61, 9, "2"},
		{0, 99, -1, ""}, {0, 99, 0, ""}, {0, 99, 1, "0"}, {0, 99, 2, "0"}, {0, 99, 3, "01"}, {0, 99, 4, "01"}, {0, 99, 5, "012"}, {0, 99, 6, "012"}, {20, 99, 1, "0"}, {20, 99, 2, "01"}, {21, 99, 1, "01"},
		{45, 44, 9, "1"}, {45, 29, 9, ""}, {45, 30, 9, "1"}, {99, 50, 9, "2"}, {99, 49, 9, ""}, {9, 8, 9, ""},
	} {
		y := span{k(x.from), k(x.to), x.most}
		for i, leaf := range s.tr.kids {
			want := api.OK
			if bytes.ContainsRune([]byte(x.reads), '0'+rune(i)) {
				want = api.ErrIO
			}
			s.what = fmt.Sprint("spoilt leaf ", i)
			spoilt(t, d, leaf.a, func() { s.scans(t, y, y.items(s.tr), want) })
		}
		s.what = "nothing spoilt"
		s.scans(t, y, y.items(s.tr), api.OK)
	}
}

// P10.3

func TestHeightAndPath(t *testing.T) {
	everywhere(t, func(s *stand) {
		s.isHigh(t, s.tr.height(), api.OK)
		for _, k := range s.keys {
			s.paths(t, k, s.tr.way(k), api.OK)
		}
	})
}

func TestPathByHand(t *testing.T) {
	p, _ := made(t, 64)
	k := func(n int) api.Key { return api.Key{Obj: n} }
	leaf := func(n int) int { return puts(t, p, api.Node{Items: []api.Item{{Key: k(n)}, {Key: k(n + 5)}}}) }
	over := func(level, n, a, m, b int) int {
		return puts(t, p, api.Node{Level: level, Kids: []api.Kid{{Key: k(n), Addr: a}, {Key: k(m), Addr: b}}})
	}
	l := []int{leaf(10), leaf(20), leaf(30), leaf(40)}
	m := []int{over(1, 10, l[0], 20, l[1]), over(1, 30, l[2], 40, l[3])}
	root := over(2, 10, m[0], 30, m[1])
	for n, want := range map[int][]int{
		-1: {root, m[0], l[0]}, 10: {root, m[0], l[0]}, 19: {root, m[0], l[0]}, 20: {root, m[0], l[1]}, 29: {root, m[0], l[1]},
		30: {root, m[1], l[2]}, 39: {root, m[1], l[2]}, 40: {root, m[1], l[3]}, 99: {root, m[1], l[3]},
	} {
		if got, e := find.Path(p, root, k(n)); !slices.Equal(got, want) || e != api.OK {
			t.Errorf("Path of %d: %v, %d, not %v", n, got, e, want)
		}
	}
	for a, want := range map[int]int{root: 3, m[0]: 2, m[1]: 2, l[0]: 1, l[3]: 1} {
		if h, e := find.Height(p, a); h != want || e != api.OK {
			t.Errorf("Height of %d: %d, %d, not %d", a, h, e, want)
		}
	}
}

// Height reads the root alone: a kid's level is not its affair.
func TestHeightOfEachLevel(t *testing.T) {
	p, d := made(t, 32)
	leaf := puts(t, p, api.Node{Items: []api.Item{{}}})
	roots := []int{leaf}
	for level := 1; level < 8; level++ {
		roots = append(roots, puts(t, p, api.Node{Level: level, Kids: []api.Kid{{Addr: 1}, {Key: api.Key{Off: 1}, Addr: leaf}}}))
	}
	for range 3 {
		for level, a := range roots {
			s := &stand{what: "a root", p: p, tr: &tree{a: a}}
			s.isHigh(t, level+1, api.OK)
		}
		commits(t, p)
		p = mounted(t, d)
	}
}

// P10.4

func TestGetOfWhatScanReturns(t *testing.T) {
	everywhere(t, func(s *stand) {
		for _, x := range s.spans(2) {
			l, e := find.Scan(s.p, s.tr.root(), x.from, x.to, x.most)
			if e != api.OK {
				t.Fatalf("%s: Scan(%+v): %d", s.what, x, e)
			}
			for i := 0; i < len(l); i += 1 + len(l)/50 {
				s.gets(t, l[i].Key, l[i].Value, api.OK)
			}
		}
	})
}

// As many nodes as a disk has room for.
func TestATreeThatFillsTheDisk(t *testing.T) {
	stands(t, []int{12, 12, 12, 6}, 1, func(s *stand) {
		all := s.tr.items()
		if len(all) != 10368 {
			t.Fatalf("%d items", len(all))
		}
		s.scans(t, span{least, greatest, math.MaxInt}, all, api.OK)
		s.isHigh(t, 4, api.OK)
		for i := 0; i < len(all); i += 61 {
			s.gets(t, all[i].Key, all[i].Value, api.OK)
			s.paths(t, all[i].Key, s.tr.way(all[i].Key), api.OK)
			s.scans(t, span{all[i].Key, greatest, 20}, all[i:min(i+20, len(all))], api.OK)
		}
	})
}

// Each node of a tree is the root of one.
func TestTreesBelow(t *testing.T) {
	everywhere(t, func(s *stand) {
		nodes := s.tr.nodes()
		for i := 0; i < len(nodes); i += 1 + len(nodes)/8 {
			q := *s
			q.tr = nodes[i]
			q.answers(t, 8)
		}
	})
}

// Two trees with nodes in common answer each for itself.
func TestTreesThatShareNodes(t *testing.T) {
	s := planted(t, []int{3, 2, 3}, 5)
	other := &tree{n: api.Node{Level: 2}}
	for _, i := range []int{0, 2} {
		other.kids = append(other.kids, s.tr.kids[i])
		other.n.Kids = append(other.n.Kids, s.tr.n.Kids[i])
		if e := s.p.Ref(s.tr.kids[i].a); e != api.OK {
			t.Fatalf("Ref: %d", e)
		}
	}
	other.a = puts(t, s.p, other.n)
	q := *s
	q.tr = other
	for range 2 {
		s.answers(t, 99)
		q.answers(t, 99)
		commits(t, s.p)
		s.p = mounted(t, s.d)
		q.p = s.p
	}
}

// The errors.

// refuses asks all four calls of a root for an error.
func refuses(t *testing.T, what string, p *pool.Pool, root int, want api.Errno) {
	t.Helper()
	s := &stand{what: fmt.Sprintf("%s: root %d", what, root), p: p, tr: &tree{a: root}}
	for _, k := range []api.Key{least, {}, ranked(5), greatest} {
		s.gets(t, k, nil, want)
		s.paths(t, k, nil, want)
		s.scans(t, span{least, k, 1}, nil, want)
		s.scans(t, span{k, greatest, math.MaxInt}, nil, want)
		s.scans(t, span{greatest, k, 9}, nil, want)
	}
	s.isHigh(t, 0, want)
}

func TestARootThatIsNoNode(t *testing.T) {
	for _, sectors := range []int{32, 119, 2048} {
		p, d := made(t, sectors)
		leaf := puts(t, p, api.Node{Items: []api.Item{{Key: ranked(5)}}})
		data, _ := p.PutBytes(api.BlockData, []byte("ab"))
		log, _ := p.PutBytes(api.BlockLog, nil)
		gone := puts(t, p, api.Node{Items: []api.Item{{Key: ranked(5)}}})
		p.Unref(gone)
		want := api.ErrArg
		for range 3 {
			for _, a := range []int{math.MinInt, -sectors, -2, -1, 1, 2, 3, leaf - 1, gone, sectors - 1, sectors, sectors + 1, 2048, 2049, 65536 + leaf, 1<<32 + leaf, math.MaxInt} {
				refuses(t, "no block", p, a, api.ErrArg)
			}
			refuses(t, "data", p, data, want)
			refuses(t, "a log", p, log, want)
			commits(t, p)
			p, want = mounted(t, d), api.ErrIO
		}
		p.Unref(leaf)
		refuses(t, "a node that was released", p, leaf, api.ErrArg)
	}
}

// with is a tree of a good leaf, of the keys 10 and 11, and of whatever is at an address, from the key 20 on.
func with(t *testing.T, p *pool.Pool, a int) (*stand, api.Item) {
	t.Helper()
	x := api.Item{Key: ranked(10), Value: []byte("ab")}
	leaf := puts(t, p, api.Node{Items: []api.Item{x, {Key: ranked(11)}}})
	root := puts(t, p, api.Node{Level: 1, Kids: []api.Kid{{Key: ranked(10), Addr: leaf}, {Key: ranked(20), Addr: a}}})
	return &stand{what: fmt.Sprint("kid ", a), p: p, tr: &tree{a: root, kids: []*tree{{a: leaf}}}}, x
}

func TestAKidThatIsNoNode(t *testing.T) {
	for _, kind := range []int{0, api.BlockData, api.BlockLog} {
		for _, a := range []int{1, 3, 4, 30, 31, 32, 255, 256, 2047} {
			p, d := made(t, 32)
			want := api.ErrArg
			if kind != 0 {
				a, _ = p.PutBytes(kind, []byte("ab"))
			} else if a == 4 {
				p.PutBytes(5, nil)
				a = 9 // a sector that is free
			}
			s, x := with(t, p, a)
			for range 3 {
				s.gets(t, ranked(9), nil, api.ErrNone)
				s.gets(t, ranked(10), x.Value, api.OK)
				s.gets(t, ranked(19), nil, api.ErrNone)
				s.gets(t, ranked(20), nil, want)
				s.gets(t, greatest, nil, want)
				s.paths(t, ranked(19), []*tree{s.tr, s.tr.kids[0]}, api.OK)
				s.paths(t, ranked(20), nil, want)
				s.scans(t, span{least, ranked(19), 99}, []api.Item{x, {Key: ranked(11)}}, api.OK)
				s.scans(t, span{least, greatest, 2}, []api.Item{x, {Key: ranked(11)}}, api.OK)
				s.scans(t, span{least, greatest, 3}, nil, want)
				s.scans(t, span{ranked(12), ranked(20), 1}, nil, want)
				s.scans(t, span{ranked(20), ranked(20), 1}, nil, want)
				s.isHigh(t, 2, api.OK)
				commits(t, s.p)
				s.p = mounted(t, d)
				if kind != 0 {
					want = api.ErrIO
				}
			}
		}
	}
}

// leveled is a node of a level, with a least key, whose kids are no nodes: who goes below it is told of something else than its level.
func leveled(level int, k api.Key) api.Node {
	if level == 0 {
		return api.Node{Items: []api.Item{{Key: k}}}
	}
	return api.Node{Level: level, Kids: []api.Kid{{Key: k, Addr: 1}, {Key: greatestThatMayBe, Addr: 2}}}
}

var greatestThatMayBe = api.Key{Obj: api.MaxNumber, Kind: 255, Off: api.MaxNumber}

func TestAKidOfAnotherLevel(t *testing.T) {
	for i, shape := range [][]int{{2, 1}, {3, 2}, {12, 6}, {2, 2, 1}, {2, 3, 2}, {2, 2, 2, 1}, {2, 2, 2, 2, 2, 1}, {2, 2, 2, 2, 2, 2, 2, 1}} {
		s := planted(t, shape, uint64(i))
		nodes := s.tr.nodes()[1:]
		for j := 0; j < len(nodes); j += 1 + len(nodes)/10 {
			for level := range 8 {
				if level == nodes[j].n.Level {
					continue
				}
				q := *s
				q.p = s.p.Clone()
				if e := q.p.SetNode(nodes[j].a, leveled(level, nodes[j].least())); e != api.OK {
					t.Fatalf("SetNode: %d", e)
				}
				q.fails(t, map[int]api.Errno{nodes[j].a: api.ErrIO}, 6)
				if len(shape) < 4 {
					commits(t, q.p)
					q.p = mounted(t, q.d)
					q.fails(t, map[int]api.Errno{nodes[j].a: api.ErrIO}, 6)
				}
			}
		}
		s.answers(t, 9)
	}
}

// The root may be of any level: then it is the kids that have another one than expected.
func TestARootOfAnotherLevel(t *testing.T) {
	for i, shape := range [][]int{{2, 1}, {12, 6}, {2, 2, 1}, {2, 3, 2}, {2, 2, 2, 1}} {
		s := planted(t, shape, uint64(i))
		for level := 1; level < 8; level++ {
			if level == s.tr.n.Level {
				continue
			}
			q, bad, top := *s, map[int]api.Errno{}, *s.tr
			q.p, q.tr = s.p.Clone(), &top
			top.n.Level = level
			for _, kid := range top.kids {
				bad[kid.a] = api.ErrIO
			}
			if e := q.p.SetNode(top.a, top.n); e != api.OK {
				t.Fatalf("SetNode: %d", e)
			}
			q.fails(t, bad, 12)
			commits(t, q.p)
			q.p = mounted(t, q.d)
			q.fails(t, bad, 12)
		}
	}
}

// Blocks that name each other in a ring are no tree, and every call of them ends.
func TestRings(t *testing.T) {
	for level := 1; level < 8; level++ {
		p, d := made(t, 32)
		a := puts(t, p, leveled(level, ranked(1)))
		b := puts(t, p, leveled(max(level-1, 1), ranked(1)))
		for _, to := range []int{a, b} {
			ring := api.Node{Level: level, Kids: []api.Kid{{Key: ranked(1), Addr: to}, {Key: ranked(9), Addr: to}}}
			back := api.Node{Level: max(level-1, 1), Kids: []api.Kid{{Key: ranked(1), Addr: a}, {Key: ranked(9), Addr: a}}}
			q := p.Clone()
			q.SetNode(a, ring)
			q.SetNode(b, back)
			s := &stand{what: fmt.Sprint("a ring of level ", level), p: q, tr: &tree{a: a}}
			for range 2 {
				for _, k := range []api.Key{least, ranked(1), ranked(9), greatest} {
					s.gets(t, k, nil, api.ErrIO)
					s.paths(t, k, nil, api.ErrIO)
					s.scans(t, span{k, greatest, 9}, nil, api.ErrIO)
				}
				s.scans(t, span{least, least, 9}, nil, api.OK)
				s.isHigh(t, level+1, api.OK)
				commits(t, s.p)
				s.p = mounted(t, d)
			}
		}
	}
}

func off(d *drive.Drive) {
	d.Fuse(0)
	d.Flush()
}

// What is new is there without power, and what is not new isn't.
func TestThePowerOff(t *testing.T) {
	everywhere(t, func(s *stand) {
		was := s.d.Clone()
		off(s.d)
		bad := map[int]api.Errno{}
		for _, x := range s.tr.nodes() {
			if !s.p.Fresh(x.a) {
				bad[x.a] = api.ErrPower
			}
		}
		s.fails(t, bad, 8)
		s.d.Crash(nil)
		s.answers(t, 8)
		*s.d = *was
	})
}

// A node that is no block is told of ahead of the power, as pool.Node does.
func TestNoNodeWithoutPower(t *testing.T) {
	p, d := made(t, 32)
	leaf := puts(t, p, api.Node{Items: []api.Item{{Key: ranked(5)}}})
	commits(t, p)
	off(d)
	refuses(t, "without power", p, leaf, api.ErrPower)
	for _, a := range []int{-1, 1, 3, 5, 31, 32, 2048} {
		refuses(t, "without power", p, a, api.ErrArg)
	}
	none := &stand{what: "no items without power", p: p}
	none.gets(t, ranked(5), nil, api.ErrNone)
	none.scans(t, span{least, greatest, 9}, nil, api.OK)
	none.paths(t, ranked(5), nil, api.OK)
	none.isHigh(t, 0, api.OK)
}

// R2, R6, R7

// picture is all that can be seen of a pool and its disk.
func picture(s *stand) []any {
	l := []any{s.p.Super(), s.p.Free(), s.d.Steps(), s.d.Cached(), s.d.On()}
	for a := range s.d.Size() {
		b, e := s.d.Read(a)
		n, en := s.p.Node(a)
		x, ex := s.p.Bytes(a, api.BlockData)
		l = append(l, s.p.Count(a), s.p.Fresh(a), b, e, n, en, x, ex)
	}
	return l
}

func TestThePoolStaysAsItWas(t *testing.T) {
	for i, shape := range [][]int{{}, {3}, {3, 2}, {2, 3, 2}, {2, 2, 2, 1}} {
		stands(t, shape, uint64(i), func(s *stand) {
			s.p.PutBytes(api.BlockData, []byte("ab"))
			was := picture(s)
			s.answers(t, 99)
			for _, a := range []int{-1, 1, 31, 2048} {
				refuses(t, "no block", s.p, a, api.ErrArg)
			}
			if !reflect.DeepEqual(picture(s), was) {
				t.Errorf("%s: the pool is not what it was", s.what)
			}
			s.answers(t, 99)
		})
	}
}

func scribbled(l []api.Item) {
	for i := range l {
		lent.Scribble(l[i].Value)
	}
	clear(l[:cap(l)])
}

func TestWhatIsHandedOut(t *testing.T) {
	everywhere(t, func(s *stand) {
		for _, x := range s.spans(2) {
			l, _ := find.Scan(s.p, s.tr.root(), x.from, x.to, x.most)
			other, _ := find.Scan(s.p, s.tr.root(), x.from, x.to, x.most)
			scribbled(l)
			if !sameItems(other, x.items(s.tr)) {
				t.Errorf("%s: a change of an answer shows in another: %v", s.what, other)
			}
		}
		for _, k := range s.some(20) {
			v, _ := find.Get(s.p, s.tr.root(), k)
			other, e := find.Get(s.p, s.tr.root(), k)
			lent.Scribble(v)
			if want, we := s.tr.get(k); !bytes.Equal(other, want) || e != we {
				t.Errorf("%s: a change of an answer shows in another: %x", s.what, other)
			}
			addrs, _ := find.Path(s.p, s.tr.root(), k)
			clear(addrs[:cap(addrs)])
		}
		s.answers(t, 8)
	})
}

// The values of one answer share nothing, what is behind their ends neither.
func TestTheValuesOfOneScan(t *testing.T) {
	everywhere(t, func(s *stand) {
		all := s.tr.items()
		l, _ := find.Scan(s.p, s.tr.root(), least, greatest, 80)
		for i := range l {
			lent.Scribble(l[i].Value)
			for j := i + 1; j < len(l); j++ {
				if !bytes.Equal(l[j].Value, all[j].Value) {
					t.Fatalf("%s: a change of the value %d shows in %d", s.what, i, j)
				}
			}
		}
	})
}

// An answer stays what it was, whatever is done to the pool.
func TestAnAnswerIsNoLongerThePools(t *testing.T) {
	s := planted(t, []int{3, 2, 3}, 7)
	all := s.tr.items()
	l, _ := find.Scan(s.p, s.tr.a, least, greatest, 99)
	v, _ := find.Get(s.p, s.tr.a, all[4].Key)
	way, _ := find.Path(s.p, s.tr.a, all[4].Key)
	was := slices.Clone(way)
	for _, x := range s.tr.nodes() {
		s.p.SetNode(x.a, leveled(x.n.Level, x.least()))
	}
	commits(t, s.p)
	for _, x := range s.tr.nodes() {
		s.p.Unref(x.a)
	}
	if !sameItems(l, all) || !bytes.Equal(v, all[4].Value) || !slices.Equal(way, was) {
		t.Errorf("an answer became %v, %x, %v", l, v, way)
	}
}

func TestTheSameAgain(t *testing.T) {
	everywhere(t, func(s *stand) {
		spans, keys := s.spans(2), s.some(9)
		for range 3 {
			for _, x := range spans {
				s.scans(t, x, x.items(s.tr), api.OK)
			}
			for _, k := range keys {
				v, e := s.tr.get(k)
				s.gets(t, k, v, e)
				s.paths(t, k, s.tr.way(k), api.OK)
			}
			s.isHigh(t, s.tr.height(), api.OK)
		}
	})
}

// Two pools' trees have nothing in common.
func TestTwoPools(t *testing.T) {
	s, q := planted(t, []int{3, 2, 3}, 8), planted(t, []int{2, 6}, 9)
	for range 2 {
		s.answers(t, 30)
		q.answers(t, 30)
	}
	c := *s
	c.p = s.p.Clone()
	for _, x := range s.tr.nodes() {
		s.p.SetNode(x.a, leveled(x.n.Level, x.least()))
	}
	c.answers(t, 30)
}
