package dir_test

import (
	"bytes"
	"cmp"
	"fmt"
	"maps"
	"math"
	"math/rand/v2"
	"reflect"
	"slices"
	"strings"
	"testing"

	"cambium/api"
	"cambium/dir"
	"cambium/drive"
	"cambium/edit"
	"cambium/find"
	"cambium/pool"
)

const maxNumber = 1<<31 - 1

// least and greatest are keys that are ahead of and behind all that may be.
var (
	least    = api.Key{Obj: math.MinInt, Kind: math.MinInt, Off: math.MinInt}
	greatest = api.Key{Obj: math.MaxInt, Kind: math.MaxInt, Off: math.MaxInt}
)

// encoded is an entry's value, as chapter 13 says it.
func encoded(x api.Entry) string {
	b := append([]byte{byte(len(x.Name))}, x.Name...)
	return string(append(b, byte(x.Ino>>24), byte(x.Ino>>16), byte(x.Ino>>8), byte(x.Ino), byte(x.Kind)))
}

func entryKey(ino, n int) api.Key { return api.Key{Obj: ino, Kind: 2, Off: n} }

func compared(a, b api.Key) int {
	return cmp.Or(cmp.Compare(a.Obj, b.Obj), cmp.Compare(a.Kind, b.Kind), cmp.Compare(a.Off, b.Off))
}

// files are entries with some names.
func files(names ...string) []api.Entry {
	var l []api.Entry
	for i, s := range names {
		l = append(l, api.Entry{Name: s, Ino: 100 + i, Kind: 1 + i%2})
	}
	return l
}

// numbered is what stands in a directory, by numbers.
type numbered map[int]api.Entry

func (l numbered) next() int {
	n := 0
	for i := range l {
		n = max(n, i+1)
	}
	return n
}

func (l numbered) at(name string) (int, bool) {
	for n, x := range l {
		if x.Name == name {
			return n, true
		}
	}
	return 0, false
}

// byName are the entries with their names rising, byte by byte.
func (l numbered) byName() []api.Entry {
	some := slices.Collect(maps.Values(l))
	slices.SortFunc(some, func(a, b api.Entry) int { return bytes.Compare([]byte(a.Name), []byte(b.Name)) })
	return some
}

// tree is a root, and what the tree should have: directories, and other items.
type tree struct {
	root int
	dirs map[int]numbered
	rest map[api.Key]string
}

func (tr *tree) clone() *tree {
	c := &tree{tr.root, map[int]numbered{}, maps.Clone(tr.rest)}
	for ino, l := range tr.dirs {
		c.dirs[ino] = maps.Clone(l)
	}
	return c
}

func (tr *tree) rows() []api.Item {
	row := maps.Clone(tr.rest)
	for ino, l := range tr.dirs {
		for n, x := range l {
			row[entryKey(ino, n)] = encoded(x)
		}
	}
	var items []api.Item
	for _, k := range slices.SortedFunc(maps.Keys(row), compared) {
		items = append(items, api.Item{Key: k, Value: []byte(row[k])})
	}
	return items
}

func sameItems(a, b []api.Item) bool {
	return slices.EqualFunc(a, b, func(x, y api.Item) bool { return x.Key == y.Key && bytes.Equal(x.Value, y.Value) })
}

// bench is a pool, and the trees that should be in it.
type bench struct {
	what  string
	p     *pool.Pool
	d     *drive.Drive
	trees []*tree
}

func made(t *testing.T, sectors int) *bench {
	t.Helper()
	d, e := drive.New(sectors)
	if e != api.OK {
		t.Fatalf("New: %d", e)
	}
	p, e := pool.Format(d)
	if e != api.OK {
		t.Fatalf("Format: %d", e)
	}
	return &bench{"new", p, d, []*tree{{0, map[int]numbered{}, map[api.Key]string{}}}}
}

func (b *bench) clone() *bench {
	c := &bench{b.what, b.p.Clone(), b.d, nil}
	for _, tr := range b.trees {
		c.trees = append(c.trees, tr.clone())
	}
	return c
}

// remounts commits, and mounts what was committed.
func (b *bench) remounts(t *testing.T) {
	t.Helper()
	if e := b.p.Commit(); e != api.OK {
		t.Fatalf("%s: Commit: %d", b.what, e)
	}
	p, e := pool.Mount(b.d)
	if e != api.OK {
		t.Fatalf("%s: Mount: %d", b.what, e)
	}
	b.p = p
}

// holds lets another tree have what one has.
func (b *bench) holds(t *testing.T, i int) {
	t.Helper()
	if a := b.trees[i].root; a != 0 {
		if e := b.p.Ref(a); e != api.OK {
			t.Fatalf("%s: Ref(%d): %d", b.what, a, e)
		}
	}
	b.trees = append(b.trees, b.trees[i].clone())
}

// puts lays an item down that is none of a directory's calls to lay down.
func (b *bench) puts(t *testing.T, k api.Key, v string) {
	t.Helper()
	root, e := edit.Put(b.p, b.trees[0].root, k, []byte(v))
	if e != api.OK {
		t.Fatalf("%s: Put(%v): %d", b.what, k, e)
	}
	b.trees[0].root, b.trees[0].rest[k] = root, v
}

// places lays an entry down under a number.
func (b *bench) places(t *testing.T, ino, n int, x api.Entry) {
	t.Helper()
	k := entryKey(ino, n)
	b.puts(t, k, encoded(x))
	tr := b.trees[0]
	delete(tr.rest, k)
	if tr.dirs[ino] == nil {
		tr.dirs[ino] = numbered{}
	}
	tr.dirs[ino][n] = x
}

// The changes ask a call for what it should do, to a pool and to what should be in it.

func (b *bench) adds(t *testing.T, i, ino int, x api.Entry) {
	t.Helper()
	tr := b.trees[i]
	root, e := dir.Add(b.p, tr.root, ino, x)
	if e != api.OK || root == 0 {
		t.Fatalf("%s: Add(%d, %d, %+v): %d, %d", b.what, tr.root, ino, x, root, e)
	}
	if tr.dirs[ino] == nil {
		tr.dirs[ino] = numbered{}
	}
	tr.root, tr.dirs[ino][tr.dirs[ino].next()] = root, x
}

func (b *bench) removes(t *testing.T, i, ino int, name string) {
	t.Helper()
	tr := b.trees[i]
	root, e := dir.Remove(b.p, tr.root, ino, name)
	n, _ := tr.dirs[ino].at(name)
	delete(tr.dirs[ino], n)
	if left := len(tr.rows()); e != api.OK || (root == 0) != (left == 0) {
		t.Fatalf("%s: Remove(%d, %d, %q): %d, %d, with %d items left", b.what, tr.root, ino, name, root, e, left)
	}
	tr.root = root
}

func (b *bench) swaps(t *testing.T, i, ino int, x api.Entry) {
	t.Helper()
	tr := b.trees[i]
	root, e := dir.Swap(b.p, tr.root, ino, x)
	if e != api.OK || root == 0 {
		t.Fatalf("%s: Swap(%d, %d, %+v): %d, %d", b.what, tr.root, ino, x, root, e)
	}
	n, _ := tr.dirs[ino].at(x.Name)
	tr.root, tr.dirs[ino][n] = root, x
}

// The refusals ask a call for an error, and for nothing beside it.

func (b *bench) refusesLook(t *testing.T, ino int, name string, want api.Errno) {
	t.Helper()
	if x, e := dir.Look(b.p, b.trees[0].root, ino, name); x != (api.Entry{}) || e != want {
		t.Errorf("%s: Look(%d, %q): %+v, %d, not %d", b.what, ino, name, x, e, want)
	}
}

func (b *bench) refusesList(t *testing.T, ino int, want api.Errno) {
	t.Helper()
	if l, e := dir.List(b.p, b.trees[0].root, ino); len(l) != 0 || e != want {
		t.Errorf("%s: List(%d): %+v, %d, not %d", b.what, ino, l, e, want)
	}
}

func (b *bench) refusesAdd(t *testing.T, ino int, x api.Entry, want api.Errno) {
	t.Helper()
	if a, e := dir.Add(b.p, b.trees[0].root, ino, x); a != 0 || e != want {
		t.Errorf("%s: Add(%d, %+v): %d, %d, not %d", b.what, ino, x, a, e, want)
	}
}

func (b *bench) refusesRemove(t *testing.T, ino int, name string, want api.Errno) {
	t.Helper()
	if a, e := dir.Remove(b.p, b.trees[0].root, ino, name); a != 0 || e != want {
		t.Errorf("%s: Remove(%d, %q): %d, %d, not %d", b.what, ino, name, a, e, want)
	}
}

func (b *bench) refusesSwap(t *testing.T, ino int, x api.Entry, want api.Errno) {
	t.Helper()
	if a, e := dir.Swap(b.p, b.trees[0].root, ino, x); a != 0 || e != want {
		t.Errorf("%s: Swap(%d, %+v): %d, %d, not %d", b.what, ino, x, a, e, want)
	}
}

// fails asks all calls on a directory for an error, whatever the name; an entry that may not be is told ahead of it.
func (b *bench) fails(t *testing.T, ino int, want api.Errno, names ...string) {
	t.Helper()
	b.refusesList(t, ino, want)
	for _, s := range names {
		x := api.Entry{Name: s, Ino: 77, Kind: 1}
		b.refusesLook(t, ino, s, want)
		b.clone().refusesAdd(t, ino, x, want)
		b.clone().refusesRemove(t, ino, s, want)
		b.clone().refusesSwap(t, ino, x, want)
		x.Kind = 3
		b.refusesAdd(t, ino, x, api.ErrArg)
		b.refusesSwap(t, ino, x, api.ErrArg)
	}
}

// lists holds what is told of a directory against what should be in it.
func (b *bench) lists(t *testing.T, i, ino int) {
	t.Helper()
	tr := b.trees[i]
	want := tr.dirs[ino].byName()
	if l, e := dir.List(b.p, tr.root, ino); !slices.Equal(l, want) || e != api.OK {
		t.Fatalf("%s: List(%d, %d): %+v, %d, not %+v", b.what, tr.root, ino, l, e, want)
	}
	for _, x := range want {
		if y, e := dir.Look(b.p, tr.root, ino, x.Name); y != x || e != api.OK {
			t.Fatalf("%s: Look(%d, %d, %q): %+v, %d, not %+v", b.what, tr.root, ino, x.Name, y, e, x)
		}
		for _, s := range []string{x.Name + "\x00", x.Name + " ", x.Name[1:], strings.ToUpper(x.Name)} {
			if _, is := tr.dirs[ino].at(s); is {
				continue
			}
			if y, e := dir.Look(b.p, tr.root, ino, s); y != (api.Entry{}) || e != api.ErrNone {
				t.Fatalf("%s: Look(%d, %d, %q): %+v, %d", b.what, tr.root, ino, s, y, e)
			}
		}
	}
}

// walk counts the references of a node and of those below it, once.
func (b *bench) walk(t *testing.T, a int, refs map[int]int) {
	t.Helper()
	refs[a]++
	if refs[a] > 1 {
		return
	}
	n, e := b.p.Node(a)
	if e != api.OK {
		t.Fatalf("%s: Node(%d): %d", b.what, a, e)
	}
	for _, x := range n.Kids {
		b.walk(t, x.Addr, refs)
	}
}

// sound holds a whole pool against what should be in it, item by item.
func (b *bench) sound(t *testing.T) {
	t.Helper()
	refs := map[int]int{}
	for i, tr := range b.trees {
		want := tr.rows()
		if l, e := find.Scan(b.p, tr.root, least, greatest, math.MaxInt); !sameItems(l, want) || e != api.OK {
			t.Fatalf("%s: tree %d has %d, %+v, not %+v", b.what, i, e, l, want)
		}
		if tr.root != 0 {
			b.walk(t, tr.root, refs)
		}
	}
	for a := range b.d.Size() {
		if b.p.Count(a) != refs[a] {
			t.Fatalf("%s: block %d has the count %d, not %d", b.what, a, b.p.Count(a), refs[a])
		}
	}
}

// picture is all that can be seen of a pool and its disk.
func (b *bench) picture() []any {
	l := []any{b.p.Super(), b.p.Free(), b.d.Steps(), b.d.Cached(), b.d.On()}
	for a := range b.d.Size() {
		n, e := b.p.Node(a)
		v, f := b.d.Read(a)
		l = append(l, b.p.Count(a), b.p.Fresh(a), n, e, v, f)
	}
	return l
}

// unchanged asks for a pool and its disk to be what they were after f.
func (b *bench) unchanged(t *testing.T, f func()) {
	t.Helper()
	was := b.picture()
	f()
	if !reflect.DeepEqual(b.picture(), was) {
		t.Errorf("%s: the pool is not what it was", b.what)
	}
}

// surround lays items down right beside a directory's entries, which are none of them.
func (b *bench) surround(t *testing.T, ino int) {
	t.Helper()
	for _, k := range []api.Key{
		{Obj: ino - 1, Kind: 2, Off: maxNumber}, {Obj: ino, Kind: 1, Off: 0}, {Obj: ino, Kind: 1, Off: maxNumber}, {Obj: ino, Kind: 0},
		{Obj: ino, Kind: 3, Off: 0}, {Obj: ino, Kind: 4, Off: 5}, {Obj: ino, Kind: 255, Off: maxNumber}, {Obj: ino + 1, Kind: 2, Off: 0},
	} {
		if k.Obj >= 0 && k.Obj <= maxNumber {
			b.puts(t, k, []string{"", "\x01a\x00\x00\x00\x07", encoded(api.Entry{Name: "beside", Ino: 7, Kind: 1})}[k.Off%3])
		}
	}
}

// many is a tree of three levels with a directory 5 of so many entries among others.
func many(t *testing.T, entries int) *bench {
	t.Helper()
	b := made(t, 512)
	for i := range entries {
		b.adds(t, 0, 5, api.Entry{Name: fmt.Sprint("five", i*37%entries), Ino: 1 + i, Kind: 1})
		b.adds(t, 0, 4+i%2*2, api.Entry{Name: fmt.Sprint("beside", i), Ino: 1 + i, Kind: 2})
	}
	b.sound(t)
	return b
}

// The chapter's example.

func TestTheExample(t *testing.T) {
	b := made(t, 32)
	root, e := dir.Add(b.p, 0, 1, api.Entry{Name: "b", Ino: 5, Kind: api.File})
	if e != api.OK {
		t.Fatal(e)
	}
	if root, e = dir.Add(b.p, root, 1, api.Entry{Name: "a", Ino: 6, Kind: api.Dir}); e != api.OK {
		t.Fatal(e)
	}
	l, e := dir.List(b.p, root, 1)
	if !slices.Equal(l, []api.Entry{{Name: "a", Ino: 6, Kind: api.Dir}, {Name: "b", Ino: 5, Kind: api.File}}) || e != api.OK {
		t.Error(l, e)
	}
}

// P15.1

func TestNames(t *testing.T) {
	long := strings.Repeat("n", 20)
	b := made(t, 64)
	for i, x := range files("b", "B", "a", "ab", "a\x00", "a\x00b", "a b", "a\xff", "\xff", "\x7f", "\x80", "\x00", "0", "10", "9", "é", "e\u0301", long, long[:19], long[:19]+"m", long[:19]+"o", ".", "/", "_") {
		x.Ino = []int{1, 258, maxNumber, 1 << 24}[i%4]
		b.adds(t, 0, 1, x)
		b.lists(t, 0, 1)
	}
	b.sound(t)
	for _, s := range []string{"", "c", long + "n", strings.Repeat("n", 300), long[:18], "É"} {
		b.refusesLook(t, 1, s, api.ErrNone)
	}
}

// Every byte is a name, and they are told in the order of bytes, in whichever order they came.
func TestEveryByte(t *testing.T) {
	for _, stride := range []int{1, 255, 73} {
		b := made(t, 256)
		for i := range 256 {
			b.adds(t, 0, 9, api.Entry{Name: string([]byte{byte(i * stride)}), Ino: 1 + i, Kind: 1})
		}
		b.lists(t, 0, 9)
		b.sound(t)
	}
}

func TestNumbersOfEntries(t *testing.T) {
	for _, l := range [][]int{{0}, {maxNumber}, {0, maxNumber}, {3, 1, 7}, {65535, 65536, 1 << 24, 5}, {maxNumber - 1, 0, 1, 2, 3, 4, 5, 6, 7, 8}} {
		b := made(t, 64)
		for i, x := range files("e", "d", "c", "b", "a", "f", "h", "i", "g", "j")[:len(l)] {
			b.places(t, 5, l[i], x)
		}
		b.lists(t, 0, 5)
		b.surround(t, 5)
		b.lists(t, 0, 5)
		b.sound(t)
	}
}

func TestDirectoriesOfAnyNumber(t *testing.T) {
	inos := []int{0, 1, 2, 255, 256, 65536, maxNumber - 1, maxNumber}
	b := made(t, 256)
	for _, ino := range inos {
		b.surround(t, ino)
	}
	for _, ino := range inos {
		b := b.clone()
		for _, k := range []api.Key{entryKey(ino, 0), entryKey(ino, maxNumber)} {
			if _, is := b.trees[0].rest[k]; is {
				b.trees[0].root, _ = edit.Delete(b.p, b.trees[0].root, k)
				delete(b.trees[0].rest, k)
			}
		}
		for i, x := range files("b", "c", "a") {
			b.lists(t, 0, ino)
			b.refusesLook(t, ino, x.Name, api.ErrNone)
			b.refusesLook(t, ino, "beside", api.ErrNone)
			b.adds(t, 0, ino, x)
			if v, e := find.Get(b.p, b.trees[0].root, entryKey(ino, i)); string(v) != encoded(x) || e != api.OK {
				t.Errorf("%d: Get: %x, %d", ino, v, e)
			}
		}
		b.lists(t, 0, ino)
		b.sound(t)
	}
}

// No items stand at numbers that no key has, so that there are no entries, and none can be added.
func TestDirectoriesThatMayNotBe(t *testing.T) {
	for _, b := range []*bench{made(t, 32), many(t, 1), many(t, 60)} {
		b.places(t, 0, 0, api.Entry{Name: "a", Ino: 7, Kind: 1})
		b.places(t, maxNumber, maxNumber, api.Entry{Name: "a", Ino: 7, Kind: 1})
		b.unchanged(t, func() {
			for _, ino := range []int{-1, -5, math.MinInt, maxNumber + 1, 1 << 32, 1<<32 + 5, math.MaxInt} {
				b.lists(t, 0, ino)
				b.refusesLook(t, ino, "a", api.ErrNone)
				b.refusesAdd(t, ino, api.Entry{Name: "a", Ino: 7, Kind: 1}, api.ErrArg)
				b.refusesRemove(t, ino, "a", api.ErrNone)
				b.refusesSwap(t, ino, api.Entry{Name: "a", Ino: 7, Kind: 1}, api.ErrNone)
				b.refusesSwap(t, ino, api.Entry{Name: "a", Ino: 7, Kind: 0}, api.ErrArg)
			}
		})
	}
}

func TestWithoutEntries(t *testing.T) {
	b := made(t, 32)
	for range 2 {
		b.unchanged(t, func() {
			for _, ino := range []int{0, 5, maxNumber} {
				b.lists(t, 0, ino)
				b.refusesLook(t, ino, "a", api.ErrNone)
				b.refusesLook(t, ino, "", api.ErrNone)
				b.refusesRemove(t, ino, "a", api.ErrNone)
				b.refusesRemove(t, ino, "", api.ErrNone)
				b.refusesSwap(t, ino, api.Entry{Name: "a", Ino: 7, Kind: 1}, api.ErrNone)
			}
		})
		b.surround(t, 9)
	}
}

// odd are values of no entry.
func odd() []string {
	long := strings.Repeat("n", 20)
	l := []string{
		"", "\x00", "\x01", "\x00\x00\x00\x00\x07\x01", "\x01a", "\x02a\x00\x00\x00\x07\x01", "\x15n" + long + "\x00\x00\x00\x07\x01",
		"\x01a\x00\x00\x00\x00\x01", "\x01a\x80\x00\x00\x00\x01", "\x01a\xff\xff\xff\xff\x01", "\x01a\x00\x00\x00\x07\x00", "\x01a\x00\x00\x00\x07\x03", "\x01a\x00\x00\x00\x07\xff",
	}
	whole := encoded(api.Entry{Name: "a", Ino: 7, Kind: 1})
	return append(l, whole+"\x00", whole+"\x01", whole[:len(whole)-1], whole[1:], "\x01\x01\x02", "\x01\x00\x01\x00\x00\x00\x07")
}

// An item that is no entry's is an error for every call on its directory, wherever it stands there, and for no other directory.
func TestItemsThatAreNoEntries(t *testing.T) {
	names := []string{"a", "five0", "five7", "five39", "", "new"}
	for i, b := range []*bench{made(t, 64), many(t, 1), many(t, 3), many(t, 40)} {
		for j, v := range odd() {
			for _, n := range []int{0, len(b.trees[0].dirs[5]) / 2, len(b.trees[0].dirs[5]), maxNumber} {
				c := b.clone()
				c.what = fmt.Sprint(i, ", ", j, " at ", n)
				c.puts(t, entryKey(5, n), v)
				c.unchanged(t, func() {
					c.refusesList(t, 5, api.ErrIO)
					for _, s := range names {
						x := api.Entry{Name: s, Ino: 77, Kind: 1}
						want := api.ErrIO
						if s == "" {
							want = api.ErrArg
						}
						c.refusesLook(t, 5, s, api.ErrIO)
						c.refusesRemove(t, 5, s, api.ErrIO)
						c.refusesAdd(t, 5, x, want)
						c.refusesSwap(t, 5, x, want)
					}
					c.lists(t, 0, 4)
					c.lists(t, 0, 6)
				})
				delete(c.trees[0].dirs[5], n)
				c.adds(t, 0, 4, api.Entry{Name: "a", Ino: 7, Kind: 1})
				c.removes(t, 0, 4, "a")
				c.sound(t)
			}
		}
	}
}

// P15.2

// wrong are entries that may not be, with some name.
func wrong(s string) []api.Entry {
	var l []api.Entry
	for _, ino := range []int{math.MinInt, -1, 0, maxNumber + 1, 1<<32 + 7, math.MaxInt} {
		l = append(l, api.Entry{Name: s, Ino: ino, Kind: 1})
	}
	for _, kind := range []int{math.MinInt, -1, 0, 3, 4, 257, 258, math.MaxInt} {
		l = append(l, api.Entry{Name: s, Ino: 7, Kind: kind})
	}
	for _, n := range []int{0, 21, 22, 255, 256, 257, 300} {
		l = append(l, api.Entry{Name: strings.Repeat("n", n), Ino: 7, Kind: 1})
	}
	return append(l, api.Entry{})
}

func TestEntriesThatMayNotBe(t *testing.T) {
	for _, b := range []*bench{made(t, 32), many(t, 1), many(t, 30)} {
		b.unchanged(t, func() {
			for _, s := range []string{"five0", "other"} {
				for _, x := range wrong(s) {
					for _, ino := range []int{-1, 0, 4, 5, 7} {
						b.refusesAdd(t, ino, x, api.ErrArg)
						b.refusesSwap(t, ino, x, api.ErrArg)
					}
				}
			}
		})
		b.trees[0].root = 1 << 20 // which can't be read
		for _, x := range wrong("five0") {
			b.refusesAdd(t, 5, x, api.ErrArg)
			b.refusesSwap(t, 5, x, api.ErrArg)
		}
	}
}

func TestNamesThatThereAre(t *testing.T) {
	b := many(t, 40)
	for range 2 {
		b.unchanged(t, func() {
			for _, x := range b.trees[0].dirs[5] {
				b.refusesAdd(t, 5, x, api.ErrExists)
				b.refusesAdd(t, 5, api.Entry{Name: x.Name, Ino: 999, Kind: 2}, api.ErrExists)
				b.refusesRemove(t, 4, x.Name, api.ErrNone)
				b.refusesSwap(t, 4, x, api.ErrNone)
				b.refusesSwap(t, 6, api.Entry{Name: x.Name, Ino: 999, Kind: 2}, api.ErrNone)
				b.refusesRemove(t, 5, x.Name+"x", api.ErrNone)
				b.refusesRemove(t, 5, x.Name[1:], api.ErrNone)
			}
			b.refusesRemove(t, 5, "", api.ErrNone)
			b.refusesRemove(t, 5, strings.Repeat("five0", 60), api.ErrNone)
		})
		b.remounts(t)
	}
}

// The number of a new entry is that behind the greatest, however many there are ahead of it.
func TestTheNextNumber(t *testing.T) {
	for _, l := range [][]int{{}, {0}, {1}, {0, 1, 2}, {5}, {0, 9}, {300, 7, 20}, {65535}, {1 << 24}, {maxNumber - 1}, {0, maxNumber - 1}, {4, 3, 2, 1, 0, 9, 8, 7, 6}} {
		b := made(t, 64)
		b.surround(t, 5)
		for i, n := range l {
			b.places(t, 5, n, api.Entry{Name: fmt.Sprint(i), Ino: 1 + i, Kind: 1})
		}
		want := 0
		if len(l) > 0 {
			want = slices.Max(l) + 1
		}
		x := api.Entry{Name: "new", Ino: 7, Kind: 2}
		b.adds(t, 0, 5, x)
		if v, e := find.Get(b.p, b.trees[0].root, entryKey(5, want)); string(v) != encoded(x) || e != api.OK {
			t.Errorf("%v: Get: %x, %d", l, v, e)
		}
		b.sound(t)
	}
}

// Behind the greatest number there is none for another entry; what is there may be swapped and removed.
func TestNoNextNumber(t *testing.T) {
	for _, l := range [][]int{{maxNumber}, {0, maxNumber}, {3, 4, 5, 6, 7, 8, 9, maxNumber}} {
		b := made(t, 64)
		b.surround(t, 5)
		for i, n := range l {
			b.places(t, 5, n, api.Entry{Name: fmt.Sprint(i), Ino: 1 + i, Kind: 1})
		}
		b.unchanged(t, func() {
			b.refusesAdd(t, 5, api.Entry{Name: "new", Ino: 7, Kind: 2}, api.ErrArg)
			b.refusesAdd(t, 5, api.Entry{Name: "0", Ino: 7, Kind: 2}, api.ErrExists)
			b.refusesAdd(t, 5, api.Entry{Name: "0", Ino: 0, Kind: 2}, api.ErrArg)
		})
		for i := range l {
			b.swaps(t, 0, 5, api.Entry{Name: fmt.Sprint(i), Ino: 99, Kind: 2})
		}
		b.sound(t)
		b.removes(t, 0, 5, fmt.Sprint(len(l)-1))
		b.adds(t, 0, 5, api.Entry{Name: "new", Ino: 7, Kind: 2})
		b.sound(t)
	}
}

// The number of what is removed comes again if it was the greatest, and else doesn't.
func TestNumbersAfterARemoval(t *testing.T) {
	for _, gone := range [][]int{{0}, {3}, {9}, {9, 8}, {8, 9}, {8}, {0, 1, 2, 3, 4, 5, 6, 7, 8, 9}, {9, 0, 8, 1, 7}} {
		b := made(t, 64)
		for i := range 10 {
			b.adds(t, 0, 5, api.Entry{Name: fmt.Sprint(i), Ino: 1 + i, Kind: 1})
		}
		for _, i := range gone {
			b.removes(t, 0, 5, fmt.Sprint(i))
			b.refusesLook(t, 5, fmt.Sprint(i), api.ErrNone)
			b.sound(t)
		}
		for _, x := range files("x", "y", "z") {
			b.adds(t, 0, 5, x)
			b.sound(t)
		}
		b.lists(t, 0, 5)
	}
}

func TestTheLastOneRemoved(t *testing.T) {
	b := made(t, 32)
	free := b.p.Free()
	for _, x := range files("a", "b", "c") {
		b.adds(t, 0, 5, x)
		b.removes(t, 0, 5, x.Name)
		if b.trees[0].root != 0 || b.p.Free() != free {
			t.Errorf("root %d, %d are free, not %d", b.trees[0].root, b.p.Free(), free)
		}
	}
	b.surround(t, 5)
	b.adds(t, 0, 5, files("a")[0])
	b.removes(t, 0, 5, "a")
	b.sound(t)
}

// A swap leaves the number, and all else.
func TestSwaps(t *testing.T) {
	for _, entries := range []int{1, 2, 7, 40} {
		b := many(t, entries)
		for i := range entries {
			x := b.trees[0].dirs[5][i]
			x.Ino, x.Kind = []int{1, 99, maxNumber}[i%3], 2
			for range 2 { // the second time by what there is
				b.swaps(t, 0, 5, x)
				if v, e := find.Get(b.p, b.trees[0].root, entryKey(5, i)); string(v) != encoded(x) || e != api.OK {
					t.Errorf("Get: %x, %d", v, e)
				}
			}
			b.sound(t)
		}
		b.lists(t, 0, 5)
	}
}

// P15.3, T3

// story does to some directories, of trees that have blocks in common, what a row of random numbers tells.
func story(t *testing.T, b *bench, r *rand.Rand, steps int) {
	t.Helper()
	for step := range steps {
		b.what = fmt.Sprint("step ", step)
		i, ino := r.IntN(len(b.trees)), []int{0, 1, 2, 3, maxNumber}[r.IntN(5)]
		x := api.Entry{Name: string(rune('a'+r.IntN(26))) + strings.Repeat("z", r.IntN(3)), Ino: 1 + r.IntN(maxNumber), Kind: 1 + r.IntN(2)}
		_, is := b.trees[i].dirs[ino].at(x.Name)
		switch {
		case !is:
			b.adds(t, i, ino, x)
		case r.IntN(3) == 0:
			b.swaps(t, i, ino, x)
		default:
			b.removes(t, i, ino, x.Name)
		}
		if r.IntN(60) == 0 && len(b.trees) < 4 {
			b.holds(t, i)
		}
		if r.IntN(40) == 0 {
			b.remounts(t)
		}
		b.sound(t)
		b.lists(t, i, ino)
	}
	for i, tr := range b.trees {
		for ino := range tr.dirs {
			b.lists(t, i, ino)
		}
	}
}

func TestManyChanges(t *testing.T) {
	for seed := range 4 {
		t.Run(fmt.Sprint(seed), func(t *testing.T) {
			t.Parallel()
			story(t, made(t, 1024), rand.New(rand.NewPCG(15, uint64(seed))), 500)
		})
	}
}

// A call that one directory sees, no other one does, whether its items stand beside or not.
func TestDirectoriesApart(t *testing.T) {
	b := made(t, 512)
	inos := []int{0, 1, 2, 3, 4, 5, 6, 7, 8, 65536, maxNumber}
	for _, ino := range inos {
		for _, x := range files("a", "b", "c", "d", "e")[:1+ino%5] {
			b.adds(t, 0, ino, x)
		}
	}
	for _, ino := range inos {
		c := b.clone()
		c.adds(t, 0, ino, api.Entry{Name: "new", Ino: 7, Kind: 1})
		c.swaps(t, 0, ino, api.Entry{Name: "a", Ino: 8, Kind: 2})
		c.removes(t, 0, ino, "a")
		for _, other := range inos {
			c.lists(t, 0, other)
		}
		c.sound(t)
		b.sound(t)
	}
}

// Another holder of the tree goes on having what it had.
func TestSnapshots(t *testing.T) {
	for _, entries := range []int{1, 3, 30} {
		b := many(t, entries)
		for range 2 {
			c := b.clone()
			c.holds(t, 0)
			c.adds(t, 0, 5, api.Entry{Name: "new", Ino: 7, Kind: 1})
			c.sound(t)
			c.swaps(t, 0, 5, api.Entry{Name: "five0", Ino: 999, Kind: 2})
			c.sound(t)
			c.removes(t, 0, 5, "five0")
			c.sound(t)
			c.lists(t, 0, 5)
			c.lists(t, 1, 5)
			b.remounts(t)
		}
	}
}

// Errors of the pool.

// spoils turns a byte of a block on the disk while f runs.
func (b *bench) spoils(t *testing.T, a int, f func()) {
	t.Helper()
	for i := range 2 {
		if e := b.d.Corrupt(a, a*7%256, 1+a*3%255); e != api.OK {
			t.Fatalf("%s: Corrupt(%d): %d", b.what, a, e)
		}
		if i == 0 {
			f()
		}
	}
}

// leaves are the addresses of those with a directory's entries, and the nodes above them.
func (b *bench) leaves(t *testing.T, ino int) []int {
	t.Helper()
	var l []int
	for n := range b.trees[0].dirs[ino] {
		way, e := find.Path(b.p, b.trees[0].root, entryKey(ino, n))
		if e != api.OK {
			t.Fatalf("%s: Path: %d", b.what, e)
		}
		l = append(l, way...)
	}
	slices.Sort(l)
	return slices.Compact(l)
}

func TestSpoiltNodes(t *testing.T) {
	for _, entries := range []int{1, 6, 40} {
		b := many(t, entries)
		b.remounts(t)
		for _, a := range b.leaves(t, 5) {
			b.spoils(t, a, func() { b.fails(t, 5, api.ErrIO, "five0", "five3", "new") })
		}
		b.sound(t)
	}
}

func TestReleasedNodes(t *testing.T) {
	b := many(t, 40)
	for range 2 {
		for _, a := range b.leaves(t, 5) {
			c := b.clone()
			if _, e := c.p.Unref(a); e != api.OK {
				t.Fatalf("Unref(%d): %d", a, e)
			}
			c.fails(t, 5, api.ErrArg, "five0", "five3", "new")
		}
		b.remounts(t)
	}
}

func TestThePowerOff(t *testing.T) {
	b := many(t, 40)
	b.remounts(t)
	b.d.Fuse(0)
	b.d.Flush()
	b.fails(t, 5, api.ErrPower, "five0", "five3", "new")
	b.fails(t, 7, api.ErrPower, "a")
	c := &bench{"none", b.p, b.d, []*tree{{0, nil, nil}}}
	c.refusesLook(t, 5, "a", api.ErrNone)
	c.refusesRemove(t, 5, "a", api.ErrNone)
}

func TestRootsThatAreNone(t *testing.T) {
	b := many(t, 3)
	data, _ := b.p.PutBytes(api.BlockData, []byte("ab"))
	for _, a := range []int{math.MinInt, -1, 1, 2, data, data + 1, 511, 512, 1<<32 + b.trees[0].root, math.MaxInt} {
		c := b.clone()
		c.trees[0].root = a
		c.fails(t, 5, api.ErrArg, "five0", "new")
		c.fails(t, -5, api.ErrArg, "five0", "new")
	}
}

// Without a free block nothing can be copied, and what needn't be can be changed.
func TestAFullDisk(t *testing.T) {
	b := many(t, 40)
	fills := func() {
		for b.p.Free() > 0 {
			if _, e := b.p.PutBytes(api.BlockData, nil); e != api.OK {
				t.Fatal(e)
			}
		}
	}
	fills()
	x := api.Entry{Name: "five0", Ino: 999, Kind: 2}
	c := b.clone()
	c.swaps(t, 0, 5, x)
	c.lists(t, 0, 5)
	b.remounts(t)
	fills()
	b.clone().refusesSwap(t, 5, x, api.ErrSpace)
	b.clone().refusesRemove(t, 5, "five0", api.ErrSpace)
	b.clone().refusesAdd(t, 5, api.Entry{Name: "new", Ino: 7, Kind: 1}, api.ErrSpace)
	b.unchanged(t, func() {
		b.refusesAdd(t, 5, x, api.ErrExists)
		b.refusesRemove(t, 5, "new", api.ErrNone)
		b.refusesSwap(t, 5, api.Entry{Name: "new", Ino: 7, Kind: 1}, api.ErrNone)
		b.lists(t, 0, 5)
	})
}

// R6, R7

// What is told is the caller's.
func TestWhatIsTold(t *testing.T) {
	b := many(t, 20)
	l, _ := dir.List(b.p, b.trees[0].root, 5)
	want := slices.Clone(l)
	b.adds(t, 0, 5, api.Entry{Name: "a", Ino: 7, Kind: 1})
	b.removes(t, 0, 5, "five0")
	b.swaps(t, 0, 5, api.Entry{Name: "five1", Ino: 7, Kind: 2})
	if !slices.Equal(l, want) {
		t.Errorf("what was told became %v", l)
	}
	for i := range l {
		l[i] = api.Entry{}
	}
	b.lists(t, 0, 5)
}

// A clone goes its own way, and the same calls make the same of the same.
func TestTheSameAgain(t *testing.T) {
	b := many(t, 20)
	var pictures [][]any
	for range 3 {
		c := b.clone()
		b.unchanged(t, func() {
			for _, x := range files("a", "b", "c", "d", "e", "f", "g") {
				c.adds(t, 0, 5, x)
				c.removes(t, 0, 5, fmt.Sprint("five", x.Ino-95))
				x.Ino = 1
				c.swaps(t, 0, 5, x)
			}
		})
		c.sound(t)
		pictures = append(pictures, append(c.picture(), c.trees[0].root))
	}
	b.sound(t)
	if !reflect.DeepEqual(pictures[1], pictures[0]) || !reflect.DeepEqual(pictures[2], pictures[0]) {
		t.Error("the same calls made something else")
	}
}
