package file_test

import (
	"bytes"
	"cmp"
	"fmt"
	"maps"
	"math"
	"math/rand/v2"
	"reflect"
	"slices"
	"strings"
	"testing"

	"cambium/api"
	"cambium/drive"
	"cambium/edit"
	"cambium/file"
	"cambium/find"
	"cambium/lent"
	"cambium/pool"
)

// The chapter's numbers.
const (
	chunk     = 128
	maxInline = 24
	maxFile   = 8192
	chunks    = maxFile / chunk
	maxNumber = 1<<31 - 1
)

// least and greatest are keys that are ahead of and behind all that may be.
var (
	least    = api.Key{Obj: math.MinInt, Kind: math.MinInt, Off: math.MinInt}
	greatest = api.Key{Obj: math.MaxInt, Kind: math.MaxInt, Off: math.MaxInt}
)

func dataKey(ino, c int) api.Key { return api.Key{Obj: ino, Kind: 3, Off: c} }

func compared(a, b api.Key) int {
	return cmp.Or(cmp.Compare(a.Obj, b.Obj), cmp.Compare(a.Kind, b.Kind), cmp.Compare(a.Off, b.Off))
}

// naming is the value of a chunk that is in a block, as chapter 13 says it.
func naming(a int) string { return string([]byte{1, byte(a >> 8), byte(a)}) }

// names tells which block a value references, as chapter 6 says it.
func names(k api.Key, v []byte) (int, bool) {
	if k.Kind != 3 || len(v) != 3 || v[0] != 1 {
		return 0, false
	}
	return int(v[1])<<8 + int(v[2]), true
}

// text is so many bytes, none of them 0; another one for each seed.
func text(seed, n int) string {
	b := make([]byte, n)
	for i := range b {
		b[i] = byte(1 + (seed*37+i*7+i/chunk)%255)
	}
	return string(b)
}

func noughts(n int) string { return strings.Repeat("\x00", n) }

// contents are what a file should have: bytes up to its size, noughts behind.
type contents struct {
	size int
	b    [maxFile]byte
}

// chunk is one as it should be stored: without the noughts at its end.
func (f *contents) chunk(c int) string {
	return strings.TrimRight(string(f.b[c*chunk:(c+1)*chunk]), "\x00")
}

// tree is a root, and what the tree should have: files, and other items.
type tree struct {
	root  int
	files map[int]*contents
	rest  map[api.Key]string
}

func (tr *tree) file(ino int) *contents {
	if tr.files[ino] == nil {
		tr.files[ino] = &contents{}
	}
	return tr.files[ino]
}

func (tr *tree) clone() *tree {
	c := &tree{tr.root, map[int]*contents{}, maps.Clone(tr.rest)}
	for ino, f := range tr.files {
		g := *f
		c.files[ino] = &g
	}
	return c
}

// items are the chunks that should have one, by their keys.
func (tr *tree) items() map[api.Key]string {
	l := map[api.Key]string{}
	for ino, f := range tr.files {
		for c := range chunks {
			if v := f.chunk(c); v != "" {
				l[dataKey(ino, c)] = v
			}
		}
	}
	return l
}

func (tr *tree) empty() bool { return len(tr.items())+len(tr.rest) == 0 }

// bench is a pool, and all that should be in it.
type bench struct {
	what  string
	p     *pool.Pool
	d     *drive.Drive
	trees []*tree
	own   map[int]int // how often the test itself references a block
}

func made(t *testing.T, sectors int) *bench {
	t.Helper()
	d, e := drive.New(sectors)
	if e != api.OK {
		t.Fatalf("New: %d", e)
	}
	p, e := pool.Format(d)
	if e != api.OK {
		t.Fatalf("Format: %d", e)
	}
	return &bench{"new", p, d, []*tree{{0, map[int]*contents{}, map[api.Key]string{}}}, map[int]int{}}
}

func (b *bench) clone() *bench {
	c := &bench{b.what, b.p.Clone(), b.d, nil, maps.Clone(b.own)}
	for _, tr := range b.trees {
		c.trees = append(c.trees, tr.clone())
	}
	return c
}

// remounts commits, and mounts what was committed.
func (b *bench) remounts(t *testing.T) {
	t.Helper()
	if e := b.p.Commit(); e != api.OK {
		t.Fatalf("%s: Commit: %d", b.what, e)
	}
	p, e := pool.Mount(b.d)
	if e != api.OK {
		t.Fatalf("%s: Mount: %d", b.what, e)
	}
	b.p = p
}

// holds lets another tree have what one has.
func (b *bench) holds(t *testing.T, i int) {
	t.Helper()
	if a := b.trees[i].root; a != 0 {
		if e := b.p.Ref(a); e != api.OK {
			t.Fatalf("%s: Ref(%d): %d", b.what, a, e)
		}
	}
	b.trees = append(b.trees, b.trees[i].clone())
}

// puts lays an item down that is none of a file's calls to lay down.
func (b *bench) puts(t *testing.T, k api.Key, v string) {
	t.Helper()
	root, e := edit.Put(b.p, b.trees[0].root, k, []byte(v))
	if e != api.OK {
		t.Fatalf("%s: Put(%v): %d", b.what, k, e)
	}
	b.trees[0].root, b.trees[0].rest[k] = root, v
}

// putsBytes lays a block down, with one reference, which is the caller's.
func (b *bench) putsBytes(t *testing.T, kind int, v string) int {
	t.Helper()
	a, e := b.p.PutBytes(kind, []byte(v))
	if e != api.OK {
		t.Fatalf("%s: PutBytes: %d", b.what, e)
	}
	return a
}

// fills lets so many blocks be free.
func (b *bench) fills(t *testing.T, free int) {
	t.Helper()
	for b.p.Free() > free {
		b.own[b.putsBytes(t, api.BlockLog, "")]++
	}
	if b.p.Free() != free {
		t.Fatalf("%s: %d are free, not %d", b.what, b.p.Free(), free)
	}
}

// surround lays items down right beside those of a file, which are none of them.
func (b *bench) surround(t *testing.T, ino int) {
	t.Helper()
	for _, k := range []api.Key{
		{Obj: ino - 1, Kind: 3, Off: 0}, {Obj: ino - 1, Kind: 3, Off: maxNumber}, {Obj: ino, Kind: 1}, {Obj: ino, Kind: 2, Off: 0},
		{Obj: ino, Kind: 2, Off: maxNumber}, {Obj: ino, Kind: 4, Off: 0}, {Obj: ino, Kind: 255, Off: maxNumber}, {Obj: ino + 1, Kind: 3, Off: 0},
	} {
		if k.Obj >= 0 && k.Obj <= maxNumber {
			b.puts(t, k, []string{"", "\x00inline", "\x02"}[k.Kind%3])
		}
	}
}

// The changes ask a call for what it should do, to a pool and to what should be in it.

func (b *bench) writes(t *testing.T, i, ino, off int, v string) {
	t.Helper()
	tr := b.trees[i]
	f := tr.file(ino)
	in := lent.Bytes(v)
	root, size, e := file.Write(b.p, tr.root, ino, f.size, off, in)
	if !lent.Untouched(in, v) {
		t.Errorf("%s: Write(%d, %d) changed what was handed in", b.what, ino, off)
	}
	lent.Scribble(in)
	if v != "" {
		f.size = max(f.size, off+len(v))
		copy(f.b[off:], v)
	}
	if size != f.size || e != api.OK || (root == 0) != tr.empty() {
		t.Fatalf("%s: Write(%d, %d, %d, %d bytes): %d, %d, %d, not the size %d", b.what, tr.root, ino, off, len(v), root, size, e, f.size)
	}
	tr.root = root
}

func (b *bench) resizes(t *testing.T, i, ino, to int) {
	t.Helper()
	tr := b.trees[i]
	f := tr.file(ino)
	root, e := file.Resize(b.p, tr.root, ino, f.size, to)
	if to < f.size {
		clear(f.b[to:])
	}
	if e != api.OK || (root == 0) != tr.empty() {
		t.Fatalf("%s: Resize(%d, %d, %d, %d): %d, %d", b.what, tr.root, ino, f.size, to, root, e)
	}
	tr.root, f.size = root, to
}

func (b *bench) clones(t *testing.T, i, src, from, dst, to, n int) {
	t.Helper()
	tr := b.trees[i]
	f, g := tr.file(src), tr.file(dst)
	had, was, copied := b.addrs(t, i, src), f.b, 0
	want := g.size
	root, size, e := file.Clone(b.p, tr.root, src, f.size, from, dst, g.size, to, n)
	for j := range n {
		if (from+j)*chunk < f.size {
			copy(g.b[(to+j)*chunk:(to+j+1)*chunk], was[(from+j)*chunk:(from+j+1)*chunk])
			copied++
		}
	}
	if copied > 0 {
		want = max(want, to*chunk+min(n*chunk, f.size-from*chunk))
	}
	if size != want || e != api.OK || (root == 0) != tr.empty() {
		t.Fatalf("%s: Clone(%d, %d, %d, %d, %d, %d, %d, %d): %d, %d, %d, not the size %d", b.what, tr.root, src, f.size, from, dst, g.size, to, n, root, size, e, want)
	}
	tr.root, g.size = root, want
	has := b.addrs(t, i, dst)
	for j := range copied {
		if has[to+j] != had[from+j] {
			t.Fatalf("%s: Clone(%d, %d, %d, %d, %d): chunk %d is in block %d, not %d", b.what, src, from, dst, to, n, to+j, has[to+j], had[from+j])
		}
	}
}

// The refusals ask a call for an error, and for nothing beside it.

func (b *bench) refusesRead(t *testing.T, ino, size, off, n int, want api.Errno) {
	t.Helper()
	if v, e := file.Read(b.p, b.trees[0].root, ino, size, off, n); len(v) != 0 || e != want {
		t.Errorf("%s: Read(%d, %d, %d, %d): %x, %d, not %d", b.what, ino, size, off, n, v, e, want)
	}
}

func (b *bench) refusesWrite(t *testing.T, ino, size, off, n int, want api.Errno) {
	t.Helper()
	if root, now, e := file.Write(b.p, b.trees[0].root, ino, size, off, []byte(text(9, n))); root != 0 || now != 0 || e != want {
		t.Errorf("%s: Write(%d, %d, %d, %d bytes): %d, %d, %d, not %d", b.what, ino, size, off, n, root, now, e, want)
	}
}

func (b *bench) refusesResize(t *testing.T, ino, size, to int, want api.Errno) {
	t.Helper()
	if root, e := file.Resize(b.p, b.trees[0].root, ino, size, to); root != 0 || e != want {
		t.Errorf("%s: Resize(%d, %d, %d): %d, %d, not %d", b.what, ino, size, to, root, e, want)
	}
}

// refusesClone is of files 5 and 6, if nothing else is said.
func (b *bench) refusesClone(t *testing.T, srcSize, from, dstSize, to, n int, want api.Errno) {
	t.Helper()
	b.refusesCloneOf(t, 5, srcSize, from, 6, dstSize, to, n, want)
}

func (b *bench) refusesCloneOf(t *testing.T, src, srcSize, from, dst, dstSize, to, n int, want api.Errno) {
	t.Helper()
	root, size, e := file.Clone(b.p, b.trees[0].root, src, srcSize, from, dst, dstSize, to, n)
	if root != 0 || size != 0 || e != want {
		t.Errorf("%s: Clone(%d, %d, %d, %d, %d, %d, %d): %d, %d, %d, not %d", b.what, src, srcSize, from, dst, dstSize, to, n, root, size, e, want)
	}
}

func (b *bench) refusesBlocks(t *testing.T, ino int, want api.Errno) {
	t.Helper()
	if l, e := file.Blocks(b.p, b.trees[0].root, ino); len(l) != 0 || e != want {
		t.Errorf("%s: Blocks(%d): %v, %d, not %d", b.what, ino, l, e, want)
	}
}

// reads holds some bytes of a file against what they should be.
func (b *bench) reads(t *testing.T, i, ino, off, n int) {
	t.Helper()
	tr := b.trees[i]
	f := tr.file(ino)
	want := f.b[min(off, f.size):min(off+min(n, maxFile), f.size)]
	if v, e := file.Read(b.p, tr.root, ino, f.size, off, n); !bytes.Equal(v, want) || e != api.OK {
		t.Fatalf("%s: Read(%d, %d, %d, %d, %d): %x, %d, not %x", b.what, tr.root, ino, f.size, off, n, v, e, want)
	}
}

// readsAll reads a file at once, in halves, and up to and from on each chunk's ends.
func (b *bench) readsAll(t *testing.T, i, ino int) {
	t.Helper()
	size := b.trees[i].file(ino).size
	b.reads(t, i, ino, 0, size)
	b.reads(t, i, ino, 0, size/2)
	b.reads(t, i, ino, size/2, size)
	for c := range size/chunk + 1 {
		b.reads(t, i, ino, c*chunk, 1)
		b.reads(t, i, ino, max(c*chunk-1, 0), 2)
		b.reads(t, i, ino, max(c*chunk-1, 0), chunk+2)
	}
}

// addrs are the blocks that a file's items reference, by the numbers of their chunks.
func (b *bench) addrs(t *testing.T, i, ino int) map[int]int {
	t.Helper()
	l, e := find.Scan(b.p, b.trees[i].root, dataKey(ino, 0), dataKey(ino, maxNumber), math.MaxInt)
	if e != api.OK {
		t.Fatalf("%s: Scan: %d", b.what, e)
	}
	addrs := map[int]int{}
	for _, x := range l {
		if a, is := names(x.Key, x.Value); is {
			addrs[x.Key.Off] = a
		}
	}
	return addrs
}

// blocks holds what is told of a file's blocks against its items.
func (b *bench) blocks(t *testing.T, i, ino int) {
	t.Helper()
	var want []int
	addrs := b.addrs(t, i, ino)
	for _, c := range slices.Sorted(maps.Keys(addrs)) {
		want = append(want, addrs[c])
	}
	if l, e := file.Blocks(b.p, b.trees[i].root, ino); !slices.Equal(l, want) || e != api.OK {
		t.Fatalf("%s: Blocks(%d, %d): %v, %d, not %v", b.what, b.trees[i].root, ino, l, e, want)
	}
}

// walk counts the references of a node and of those below it, once.
func (b *bench) walk(t *testing.T, a int, refs map[int]int) {
	t.Helper()
	refs[a]++
	if refs[a] > 1 {
		return
	}
	n, e := b.p.Node(a)
	if e != api.OK {
		t.Fatalf("%s: Node(%d): %d", b.what, a, e)
	}
	for _, x := range n.Kids {
		b.walk(t, x.Addr, refs)
	}
	for _, x := range n.Items {
		if to, is := names(x.Key, x.Value); is {
			refs[to]++
		}
	}
}

// stores holds an item against a chunk's bytes.
func (b *bench) stores(t *testing.T, x api.Item, want string) {
	t.Helper()
	if len(want) <= maxInline {
		if string(x.Value) != "\x00"+want {
			t.Fatalf("%s: item %v is %x, not 00 and %x", b.what, x.Key, x.Value, want)
		}
		return
	}
	a, is := names(x.Key, x.Value)
	if v, e := b.p.Bytes(a, api.BlockData); !is || string(v) != want || e != api.OK {
		t.Fatalf("%s: item %v is %x, of the bytes %x, %d, not %x", b.what, x.Key, x.Value, v, e, want)
	}
}

// sound holds a whole pool against what should be in it, item by item.
func (b *bench) sound(t *testing.T) {
	t.Helper()
	refs := maps.Clone(b.own)
	for i, tr := range b.trees {
		l, e := find.Scan(b.p, tr.root, least, greatest, math.MaxInt)
		files := tr.items()
		if len(l) != len(files)+len(tr.rest) || e != api.OK {
			t.Fatalf("%s: tree %d has %d items, %d, not %d and %d others", b.what, i, len(l), e, len(files), len(tr.rest))
		}
		for _, x := range l {
			if want, is := tr.rest[x.Key]; is && string(x.Value) == want {
				continue
			}
			want, is := files[x.Key]
			if !is {
				t.Fatalf("%s: tree %d has the item %v, %x", b.what, i, x.Key, x.Value)
			}
			b.stores(t, x, want)
		}
		if tr.root != 0 {
			b.walk(t, tr.root, refs)
		}
	}
	for a := range b.d.Size() {
		if b.p.Count(a) != refs[a] {
			t.Fatalf("%s: block %d has the count %d, not %d", b.what, a, b.p.Count(a), refs[a])
		}
	}
}

// picture is all that can be seen of a pool and its disk.
func (b *bench) picture() []any {
	l := []any{b.p.Super(), b.p.Free(), b.d.Steps(), b.d.Cached(), b.d.On()}
	for a := range b.d.Size() {
		n, e := b.p.Node(a)
		v, f := b.p.Bytes(a, api.BlockData)
		w, g := b.p.Bytes(a, api.BlockLog)
		x, h := b.d.Read(a)
		l = append(l, b.p.Count(a), b.p.Fresh(a), n, e, v, f, w, g, x, h)
	}
	return l
}

// unchanged asks for a pool and its disk to be what they were after f.
func (b *bench) unchanged(t *testing.T, f func()) {
	t.Helper()
	was := b.picture()
	f()
	if !reflect.DeepEqual(b.picture(), was) {
		t.Errorf("%s: the pool is not what it was", b.what)
	}
}

// mixed is a tree in which file 5 has 10 chunks, in blocks, in items and holes, and files 4, 6 and 7 stand beside.
func mixed(t *testing.T) *bench {
	t.Helper()
	b := made(t, 512)
	b.surround(t, 1)
	b.writes(t, 0, 4, 0, text(4, 700))
	b.writes(t, 0, 6, 100, text(6, 300))
	b.writes(t, 0, 7, 8000, text(7, 192))
	for c, n := range []int{128, 0, 24, 25, 128, 1, 0, 0, 127, 60} {
		b.writes(t, 0, 5, c*chunk, text(c, n))
	}
	b.sound(t)
	return b
}

// The chapter's examples.

func TestTheExamples(t *testing.T) {
	p := made(t, 64).p
	root, size, e := file.Write(p, 0, 5, 0, 3, []byte("ab"))
	if size != 5 || e != api.OK {
		t.Error(size, e)
	}
	if b, e := file.Read(p, root, 5, size, 0, 9); string(b) != "\x00\x00\x00ab" || e != api.OK {
		t.Error(b, e)
	}
	if root, size, e := file.Write(p, 0, 5, 0, 8192, []byte("a")); root != 0 || size != 0 || e != api.ErrBig {
		t.Error(root, size, e)
	}
	if root, size, e := file.Write(p, 0, 5, 0, 8191, []byte("a")); root == 0 || size != 8192 || e != api.OK {
		t.Error(root, size, e)
	}
}

// P16.1

func TestEachReading(t *testing.T) {
	t.Parallel()
	b := mixed(t)
	for range 2 {
		for off := range 280 {
			for n := 0; n < 280; n += 1 + n%4 {
				b.reads(t, 0, 6, off, n)
			}
			b.reads(t, 0, 6, off, math.MaxInt)
		}
		size := b.trees[0].file(5).size
		for off := 0; off < size+3; off += 1 + off%7 {
			for n := 0; n < size+3; n += 1 + n%31 {
				b.reads(t, 0, 5, off, n)
			}
		}
		b.remounts(t)
	}
}

func TestReadingsAtTheEnd(t *testing.T) {
	b := mixed(t)
	b.writes(t, 0, 8, 8100, text(8, 92))
	for _, ino := range []int{4, 5, 6, 7, 8, 9} {
		size := b.trees[0].file(ino).size
		for _, off := range []int{0, size - 129, size - 128, size - 2, size - 1, size, size + 1, size + 128, 8191, 8192, 8193, maxNumber, math.MaxInt - 1, math.MaxInt} {
			for _, n := range []int{0, 1, 2, 127, 128, 129, 8192, maxNumber, math.MaxInt - 1, math.MaxInt} {
				if off >= 0 && off < maxFile {
					b.reads(t, 0, ino, off, n)
				} else if off >= 0 {
					b.refusesRead(t, ino, size, off, n, api.OK)
				}
			}
		}
	}
}

// A file of which there is nothing in the tree has noughts.
func TestReadingsOfNoughts(t *testing.T) {
	b := made(t, 32)
	for _, size := range []int{0, 1, 127, 128, 129, 300, 8191, 8192} {
		for _, ino := range []int{0, 1, 5, maxNumber} {
			if v, e := file.Read(b.p, 0, ino, size, 0, math.MaxInt); string(v) != noughts(size) || e != api.OK {
				t.Errorf("Read of %d noughts: %d bytes, %d", size, len(v), e)
			}
		}
	}
}

// negatives are numbers that no offset, length or size may be.
var negatives = []int{math.MinInt, -maxNumber, -129, -128, -1}

func TestReadingsOfNothing(t *testing.T) {
	b := mixed(t)
	b.unchanged(t, func() {
		for range 2 {
			for _, x := range negatives {
				for _, y := range append([]int{0, 1, 300, math.MaxInt}, negatives...) {
					b.refusesRead(t, 5, 1000, x, y, api.ErrArg)
					b.refusesRead(t, 5, 1000, y, x, api.ErrArg)
					b.refusesRead(t, 9, 0, x, y, api.ErrArg)
				}
			}
		}
	})
	b.trees[0].root = 1 << 20 // which can't be read
	for _, x := range negatives {
		b.refusesRead(t, 5, 1000, x, 5, api.ErrArg)
		b.refusesRead(t, 5, 1000, 5, x, api.ErrArg)
	}
}

// P16.2

// sized is a tree with a file 5 of a size, between two others.
func sized(t *testing.T, size int) *bench {
	t.Helper()
	b := made(t, 64)
	b.surround(t, 5)
	b.writes(t, 0, 5, 0, text(5, size))
	return b
}

func TestEachWriting(t *testing.T) {
	t.Parallel()
	for _, size := range []int{0, 10, 100, 128, 200, 300} {
		b := sized(t, size)
		for off := 0; off < 310; off += 1 + off/140*4 {
			for _, n := range []int{0, 1, 2, 24, 25, 127, 128, 129, 256, 300} {
				c := b.clone()
				c.what = fmt.Sprintf("%d bytes at %d of %d", n, off, size)
				c.writes(t, 0, 5, off, text(off, n))
				c.sound(t)
				c.readsAll(t, 0, 5)
			}
		}
		b.sound(t)
	}
}

// Each length of what is in a chunk, and each of what it was ahead of it: none, in the item, or in a block.
func TestEachLengthOfAChunk(t *testing.T) {
	t.Parallel()
	b := made(t, 64)
	b.surround(t, 5)
	for was := 0; was <= chunk; was += 1 + was/27*4 {
		for n := range chunk + 1 {
			for _, c := range []int{0, 3} {
				b.what = fmt.Sprintf("%d bytes instead of %d in chunk %d", n, was, c)
				b.writes(t, 0, 5, c*chunk, text(was, was)+noughts(chunk-was))
				b.writes(t, 0, 5, c*chunk, text(n, n)+noughts(chunk-n))
			}
			b.sound(t)
		}
	}
	b.readsAll(t, 0, 5)
}

// Noughts are left out at the end of a chunk alone.
func TestNoughtsAheadAndBetween(t *testing.T) {
	b := made(t, 64)
	for _, v := range []string{
		"\x00", "\x00a", "a\x00", "a\x00b", noughts(23) + "a", noughts(24) + "a", "a" + noughts(22) + "a", "a" + noughts(23) + "a",
		noughts(127) + "a", "a" + noughts(126) + "a", noughts(128) + "a", noughts(300) + "a" + noughts(300), "\x01\x00\x07", "\x01\x01\x07",
		text(1, 24) + noughts(90), text(1, 25) + noughts(90), text(1, 24) + noughts(104) + text(2, 128) + noughts(3),
	} {
		for _, off := range []int{0, 1, 103, 104, 105, 127, 128, 1000} {
			c := b.clone()
			c.what = fmt.Sprintf("%x at %d", v, off)
			c.writes(t, 0, 5, off, v)
			c.sound(t)
			c.readsAll(t, 0, 5)
			c.writes(t, 0, 5, off, noughts(len(v)))
			c.sound(t)
			if c.trees[0].root != 0 || c.p.Free() != b.p.Free() {
				t.Errorf("%s: of noughts there is a tree %d, and %d blocks are free, not %d", c.what, c.trees[0].root, c.p.Free(), b.p.Free())
			}
		}
	}
}

func TestWritingsBitByBit(t *testing.T) {
	for _, stride := range []int{1, 7, 100, 299} {
		b := sized(t, 0)
		for i := range 300 {
			b.writes(t, 0, 5, i*stride%300, text(i, 1))
			b.sound(t)
		}
		b.readsAll(t, 0, 5)
		for i := range 300 {
			b.writes(t, 0, 5, i*stride%300, "\x00")
			b.sound(t)
		}
		b.readsAll(t, 0, 5)
	}
}

func TestGaps(t *testing.T) {
	for _, size := range []int{0, 1, 24, 127, 128, 129, 200, 256} {
		for _, off := range []int{size, size + 1, size + 127, size + 128, size + 129, 1000, 8000} {
			b := sized(t, 300)
			b.resizes(t, 0, 5, size)
			b.writes(t, 0, 5, off, "a")
			b.sound(t)
			b.readsAll(t, 0, 5)
			if v, e := file.Read(b.p, b.trees[0].root, 5, off+1, size, off+1-size); string(v) != noughts(off-size)+"a" || e != api.OK {
				t.Errorf("%d, %d: %x, %d", size, off, v, e)
			}
		}
	}
}

func TestWritingsOfNothing(t *testing.T) {
	b := mixed(t)
	for _, ino := range []int{4, 5, 9} {
		for _, off := range []int{0, 1, 128, 129, 700, 5000, 8191, 8192} {
			b.writes(t, 0, ino, off, "")
			b.sound(t)
			b.readsAll(t, 0, ino)
		}
	}
}

func TestTheGreatestFile(t *testing.T) {
	b := made(t, 256)
	b.writes(t, 0, 5, 0, text(5, maxFile))
	for range 2 {
		b.sound(t)
		b.readsAll(t, 0, 5)
		b.blocks(t, 0, 5)
		b.writes(t, 0, 5, 8191, "z")
		b.writes(t, 0, 5, 4000, text(1, 512))
		b.remounts(t)
	}
	b.writes(t, 0, 5, 0, noughts(maxFile))
	b.sound(t)
	b.readsAll(t, 0, 5)
}

// spans are offsets and lengths of what can't be written to a file of up to 8192 bytes, and which error that is.
var spans = []struct {
	off, n int
	want   api.Errno
}{
	{8192, 1, api.ErrBig}, {8191, 2, api.ErrBig}, {8000, 193, api.ErrBig}, {0, 8193, api.ErrBig}, {1, 8192, api.ErrBig}, {0, 9000, api.ErrBig},
	{8193, 0, api.ErrBig}, {8193, 1, api.ErrBig}, {8320, 0, api.ErrBig}, {maxNumber, 0, api.ErrBig}, {maxNumber, 1, api.ErrBig},
	{math.MaxInt - 1, 0, api.ErrBig}, {math.MaxInt - 1, 2, api.ErrBig}, {math.MaxInt, 0, api.ErrBig}, {math.MaxInt, 1, api.ErrBig}, {math.MaxInt, 9000, api.ErrBig},
	{-1, 0, api.ErrArg}, {-1, 1, api.ErrArg}, {-1, 9000, api.ErrArg}, {-128, 200, api.ErrArg}, {math.MinInt, 0, api.ErrArg}, {math.MinInt, 9000, api.ErrArg},
}

func TestWritingsThatMayNotBe(t *testing.T) {
	b := mixed(t)
	b.unchanged(t, func() {
		for _, x := range spans {
			for _, ino := range []int{-1, 4, 5, 9} {
				b.refusesWrite(t, ino, 700, x.off, x.n, x.want)
				b.refusesWrite(t, ino, 8192, x.off, x.n, x.want)
				b.refusesWrite(t, ino, 0, x.off, x.n, x.want)
			}
		}
	})
	b.trees[0].root = 1 << 20 // which can't be read
	for _, x := range spans {
		b.refusesWrite(t, 5, 700, x.off, x.n, x.want)
	}
}

// P16.3

func TestEachSize(t *testing.T) {
	t.Parallel()
	for _, b := range []*bench{sized(t, 0), sized(t, 300), sized(t, 256), mixed(t)} {
		size := b.trees[0].file(5).size
		for to := 0; to < size+130; to += 1 + to/300*6 {
			c := b.clone()
			c.what = fmt.Sprintf("%d bytes instead of %d", to, size)
			c.resizes(t, 0, 5, to)
			c.sound(t)
			c.readsAll(t, 0, 5)
			c.resizes(t, 0, 5, size+1) // what was cut off doesn't come again
			c.sound(t)
			c.readsAll(t, 0, 5)
		}
		b.sound(t)
	}
}

// What is left of a chunk stands where that much belongs.
func TestEachCut(t *testing.T) {
	for _, v := range []string{text(1, 128), text(1, 24), text(1, 25), "a" + noughts(60) + "b" + noughts(30) + "c", noughts(100) + "a"} {
		for _, c := range []int{0, 3} {
			b := made(t, 64)
			b.surround(t, 5)
			b.writes(t, 0, 5, c*chunk, v+"\x00")
			for to := c*chunk + len(v); to >= max(c*chunk-2, 0); to-- {
				for _, d := range []*bench{b, b.clone()} {
					d.resizes(t, 0, 5, to)
					d.sound(t)
				}
				e := b.clone()
				e.resizes(t, 0, 5, to/2)
				e.sound(t)
			}
		}
	}
}

func TestSizesThatGrow(t *testing.T) {
	b := mixed(t)
	b.remounts(t)
	for _, ino := range []int{4, 5, 9} {
		for _, to := range []int{b.trees[0].file(ino).size, 2000, 2001, 8191, 8192} {
			b.resizes(t, 0, ino, to)
			b.sound(t)
			b.readsAll(t, 0, ino)
		}
		b.writes(t, 0, ino, 8191, "z")
		b.sound(t)
		b.resizes(t, 0, ino, 0)
		b.sound(t)
		b.readsAll(t, 0, ino)
	}
}

func TestSizesThatMayNotBe(t *testing.T) {
	b := mixed(t)
	check := func() {
		for _, size := range []int{0, 700, 8192} {
			for _, to := range []int{8193, 8320, maxNumber, math.MaxInt} {
				b.refusesResize(t, 5, size, to, api.ErrBig)
				b.refusesResize(t, -1, size, to, api.ErrBig)
			}
			for _, to := range negatives {
				b.refusesResize(t, 5, size, to, api.ErrArg)
				b.refusesResize(t, -1, size, to, api.ErrArg)
			}
		}
	}
	b.unchanged(t, check)
	b.trees[0].root = 1 << 20 // which can't be read
	check()
}

// P16.4

// TestEachClone copies all runs of chunks, of a file that has blocks, items and holes, to everywhere in another, in itself, and in one that there is not.
func TestEachClone(t *testing.T) {
	t.Parallel()
	for _, size := range []int{0, 1, 640, 700, 769} {
		b := made(t, 128)
		for c, n := range []int{128, 0, 24, 25, 128, 100, 3} {
			b.writes(t, 0, 5, c*chunk, text(c, n))
		}
		b.resizes(t, 0, 5, size)
		b.writes(t, 0, 6, 50, text(60, 400))
		for from := range 8 {
			for to := range 8 {
				for n := range 9 {
					for _, dst := range []int{5, 6, 7} {
						c := b.clone()
						c.what = fmt.Sprintf("%d bytes", size)
						c.clones(t, 0, 5, from, dst, to, n)
						c.sound(t)
						c.readsAll(t, 0, dst)
					}
				}
			}
		}
		b.sound(t)
	}
}

// What the files do after a clone, they do each for itself.
func TestAfterAClone(t *testing.T) {
	b := mixed(t)
	for range 2 {
		for _, dst := range []int{4, 5, 9} {
			c := b.clone()
			c.clones(t, 0, 5, 0, dst, 2, 10)
			for i := range 12 {
				c.writes(t, 0, dst, i*chunk+i*7, text(i, 30))
				c.sound(t)
				c.readsAll(t, 0, 5)
			}
			c.clones(t, 0, dst, 1, 5, 0, 8)
			c.sound(t)
			for to := 1500; to >= 0; to -= 99 {
				c.resizes(t, 0, 5, to)
				c.sound(t)
				c.readsAll(t, 0, dst)
			}
		}
		b.remounts(t)
	}
}

// A clone's end bears on the size of what it is cloned to, if it is behind it.
func TestSizesOfClones(t *testing.T) {
	t.Parallel()
	for _, srcSize := range []int{0, 1, 127, 128, 129, 200, 256, 300} {
		for _, dstSize := range []int{0, 1, 100, 128, 200, 256, 300, 500, 8192} {
			for from := range 4 {
				for n := range 4 {
					for _, to := range []int{0, 1, 2, 3, 60, 61} {
						b := made(t, 32)
						b.writes(t, 0, 5, 0, noughts(srcSize))
						b.resizes(t, 0, 6, dstSize)
						b.clones(t, 0, 5, from, 6, to, n)
						b.sound(t)
					}
				}
			}
		}
	}
}

// A chunk whose bytes end ahead of its own end lets noughts stand behind them.
func TestACloneOverMore(t *testing.T) {
	b := made(t, 64)
	b.writes(t, 0, 5, 0, text(5, 150))
	b.writes(t, 0, 6, 0, text(6, 600))
	b.clones(t, 0, 5, 0, 6, 1, 2)
	want := text(6, 128) + text(5, 150) + noughts(106) + text(6, 600)[384:]
	if v, e := file.Read(b.p, b.trees[0].root, 6, 600, 0, 600); string(v) != want || e != api.OK {
		t.Errorf("%x, %d, not %x", v, e, want)
	}
	b.sound(t)
}

func TestClonesThatMayNotBe(t *testing.T) {
	b := mixed(t)
	wrong := append([]int{65, 66, 128, 8192, maxNumber, math.MaxInt - 1, math.MaxInt}, negatives...)
	check := func() {
		for _, x := range wrong {
			for _, y := range []int{0, 1, 64, 65, -1, math.MaxInt} {
				for _, size := range []int{0, 700, 8192} {
					b.refusesClone(t, size, x, size, y, y, api.ErrArg)
					b.refusesClone(t, size, y, size, x, y, api.ErrArg)
					b.refusesClone(t, size, y, size, y, x, api.ErrArg)
				}
			}
		}
		for _, x := range []struct{ srcSize, from, to, n int }{
			{1, 0, 64, 1}, {1, 0, 64, 64}, {8192, 0, 1, 64}, {8192, 0, 64, 1}, {8192, 63, 64, 1}, {200, 0, 63, 2}, {129, 0, 63, 64},
			{8192, 1, 2, 63}, {8192, 1, 2, 64}, {8192, 0, 32, 33}, {8066, 0, 1, 64}, {8065, 0, 1, 64}, {300, 1, 63, 2}, {300, 2, 64, 1},
		} {
			for _, dstSize := range []int{0, 700, 8192} {
				b.refusesClone(t, x.srcSize, x.from, dstSize, x.to, x.n, api.ErrBig)
				b.refusesCloneOf(t, 5, x.srcSize, x.from, -1, dstSize, x.to, x.n, api.ErrBig)
				b.refusesCloneOf(t, -1, x.srcSize, x.from, 5, dstSize, x.to, x.n, api.ErrBig)
				b.refusesCloneOf(t, 5, x.srcSize, x.from, 5, dstSize, x.to, x.n, api.ErrBig)
			}
		}
	}
	b.unchanged(t, check)
	b.trees[0].root = 1 << 20 // which can't be read
	check()
}

// The greatest numbers of chunks are no error where nothing is behind the greatest file.
func TestClonesUpToTheEnd(t *testing.T) {
	b := made(t, 512)
	b.writes(t, 0, 5, 0, text(5, 8064))
	for _, x := range []struct{ src, from, dst, to, n int }{
		{5, 0, 6, 1, 64}, {5, 0, 6, 1, 63}, {5, 62, 6, 63, 64}, {5, 62, 6, 63, 1}, {5, 63, 6, 64, 64}, {5, 64, 6, 64, 64}, {5, 0, 6, 64, 0}, {5, 0, 5, 0, 64},
		{5, 0, 5, 1, 64}, {5, 63, 7, 0, 64}, {5, 1, 5, 0, 64}, {6, 0, 8, 0, 64}, {6, 32, 6, 0, 32}, {6, 0, 6, 32, 32}, {9, 0, 6, 0, 64}, {9, 0, 6, 64, 64},
	} {
		b.what = fmt.Sprintf("%+v", x)
		b.clones(t, 0, x.src, x.from, x.dst, x.to, x.n)
		b.sound(t)
		b.readsAll(t, 0, x.dst)
		b.blocks(t, 0, x.dst)
	}
}

// Chunks of one file that are copied within it may each be another's place.
func TestClonesWithinAFile(t *testing.T) {
	for _, n := range []int{2, 7, 20} {
		b := made(t, 256)
		for c := range n {
			b.writes(t, 0, 5, c*chunk, text(c, []int{128, 20, 60, 25, 100}[c%5]))
		}
		for range 2 {
			for _, x := range []struct{ from, to int }{{0, 1}, {1, 0}, {0, n - 1}, {n - 1, 0}, {n / 2, 0}, {0, n / 2}, {0, 0}} {
				c := b.clone()
				for range 3 {
					c.clones(t, 0, 5, x.from, 5, x.to, n)
					c.sound(t)
					c.readsAll(t, 0, 5)
					c.blocks(t, 0, 5)
				}
			}
			b.remounts(t)
		}
	}
}

// A block can't be referenced oftener than it can be counted.
func TestTheGreatestCount(t *testing.T) {
	b := made(t, 64)
	b.writes(t, 0, 5, 0, text(5, 100))
	a := b.addrs(t, 0, 5)[0]
	for b.p.Count(a) < api.MaxCount-1 {
		if e := b.p.Ref(a); e != api.OK {
			t.Fatalf("Ref: %d", e)
		}
		b.own[a]++
	}
	b.clones(t, 0, 5, 0, 6, 3, 1)
	b.sound(t)
	b.refusesClone(t, 100, 0, 484, 4, 1, api.ErrLong)
}

// P16.5

func TestBlocks(t *testing.T) {
	b := mixed(t)
	for range 2 {
		for _, x := range []struct{ ino, blocks int }{{-1, 0}, {1, 0}, {3, 0}, {4, 6}, {5, 5}, {6, 3}, {7, 2}, {8, 0}, {maxNumber, 0}, {math.MaxInt, 0}} {
			if l, e := file.Blocks(b.p, b.trees[0].root, x.ino); len(l) != x.blocks || e != api.OK {
				t.Errorf("Blocks(%d): %v, %d", x.ino, l, e)
			}
			b.blocks(t, 0, x.ino)
		}
		b.remounts(t)
	}
	if l, e := file.Blocks(b.p, 0, 5); len(l) != 0 || e != api.OK {
		t.Errorf("Blocks of no tree: %v, %d", l, e)
	}
}

// They are told in the order of the chunks, whenever they were laid down, and as often as items reference them.
func TestTheOrderOfBlocks(t *testing.T) {
	b := made(t, 256)
	for i := range 16 {
		b.writes(t, 0, 5, i*11%16*chunk, text(i, 50))
		b.blocks(t, 0, 5)
	}
	first, _ := file.Blocks(b.p, b.trees[0].root, 5)
	b.clones(t, 0, 5, 0, 5, 20, 3)
	b.clones(t, 0, 5, 1, 5, 0, 1)
	want := append(slices.Clone(first), first[:3]...)
	want[0] = first[1]
	if l, e := file.Blocks(b.p, b.trees[0].root, 5); !slices.Equal(l, want) || e != api.OK {
		t.Errorf("%v, %d, not %v", l, e, want)
	}
	b.sound(t)
}

// P16.6, T3

// story does to some files, of trees that have blocks in common, what a row of random numbers tells.
func story(t *testing.T, b *bench, r *rand.Rand, steps int) {
	t.Helper()
	for step := range steps {
		b.what = fmt.Sprint("step ", step)
		i := r.IntN(len(b.trees))
		inos := []int{0, 1, 2, maxNumber}
		ino, other := inos[r.IntN(4)], inos[r.IntN(4)]
		size := b.trees[i].file(ino).size
		switch r.IntN(8) {
		case 0, 1, 2:
			b.writes(t, i, ino, r.IntN(size+20), text(step, r.IntN(400)))
		case 3:
			b.writes(t, i, ino, r.IntN(size+300), []string{"", "a", noughts(200), text(step, 24) + noughts(80)}[r.IntN(4)])
		case 4:
			b.resizes(t, i, ino, r.IntN(min(size+500, 2500)))
		case 5:
			b.resizes(t, i, ino, r.IntN(size+1))
		default:
			b.clones(t, i, other, r.IntN(8), ino, r.IntN(8), r.IntN(12))
		}
		if r.IntN(60) == 0 && len(b.trees) < 4 {
			b.holds(t, i)
		}
		if r.IntN(40) == 0 {
			b.remounts(t)
		}
		b.sound(t)
		b.readsAll(t, i, ino)
		b.blocks(t, i, ino)
	}
	for i, tr := range b.trees {
		for ino := range tr.files {
			b.readsAll(t, i, ino)
		}
	}
}

func TestManyChanges(t *testing.T) {
	for seed := range 6 {
		t.Run(fmt.Sprint(seed), func(t *testing.T) {
			t.Parallel()
			story(t, made(t, 1024), rand.New(rand.NewPCG(16, uint64(seed))), 600)
		})
	}
}

// A call that one file sees, no other one does, whether its items stand beside or not.
func TestFilesApart(t *testing.T) {
	b := made(t, 512)
	inos := []int{0, 1, 2, 3, 4, 65536, maxNumber}
	for i, ino := range inos {
		b.writes(t, 0, ino, i*100, text(i, 100+i*70))
	}
	for _, ino := range inos {
		c := b.clone()
		c.writes(t, 0, ino, 200, text(9, 300))
		c.sound(t)
		c.clones(t, 0, ino, 0, ino, 3, 3)
		c.sound(t)
		c.resizes(t, 0, ino, 0)
		c.sound(t)
		for _, other := range inos {
			c.readsAll(t, 0, other)
		}
		b.sound(t)
	}
}

// Another holder of the tree goes on having what it had.
func TestSnapshots(t *testing.T) {
	b := mixed(t)
	for range 2 {
		c := b.clone()
		c.holds(t, 0)
		for i, off := range []int{0, 200, 300, 400, 1000, 1200} {
			c.writes(t, 0, 5, off, text(90+i, 100))
			c.sound(t)
		}
		c.clones(t, 1, 5, 0, 5, 4, 6)
		c.sound(t)
		c.holds(t, 1)
		c.resizes(t, 1, 5, 333)
		c.sound(t)
		c.resizes(t, 0, 5, 0)
		c.sound(t)
		for i := range c.trees {
			c.readsAll(t, i, 5)
			c.blocks(t, i, 5)
		}
		b.remounts(t)
	}
}

// Items that are no chunks, and blocks that are none of data.

// strange are values that no chunk has.
func strange() []string {
	l := []string{
		"", "\x00", "\x00" + text(1, 25), "\x00" + text(1, 27), "\x01", "\x01\x00", "\x01\x05", "\x01\x00\x00", "\x01\x08\x00", "\x01\xff\xff",
		"\x01\x00\x05\x00", "\x01\x00\x00\x05", "\x01\x00\x05" + text(1, 25), "\x02", "\x02a", "\x02\x00\x05", "\xff", "\xff\x00\x05", text(2, 3), text(2, 28),
	}
	return l
}

// meets tells, for a chunk 3 of a file 5 of 700 bytes that can't be told, which calls meet it, and which do without.
func (b *bench) meets(t *testing.T, want api.Errno) {
	t.Helper()
	for _, x := range []struct{ off, n int }{{384, 1}, {384, 128}, {511, 1}, {383, 2}, {0, 700}, {0, 385}, {400, 300}, {500, 9}} {
		b.refusesRead(t, 5, 700, x.off, x.n, want)
		b.clone().refusesWrite(t, 5, 700, x.off, x.n, want)
	}
	for _, to := range []int{385, 400, 511} {
		b.clone().refusesResize(t, 5, 700, to, want)
	}
	for _, x := range []struct{ from, to, n int }{{3, 0, 1}, {0, 0, 9}, {2, 5, 2}, {3, 9, 64 - 9}} {
		b.clone().refusesClone(t, 700, x.from, 0, x.to, x.n, want)
		b.clone().refusesCloneOf(t, 5, 700, x.from, 5, 700, x.to, x.n, want)
	}
}

func (b *bench) doesWithout(t *testing.T) {
	t.Helper()
	for _, x := range []struct{ off, n int }{{0, 384}, {512, 188}, {383, 1}, {512, 1}, {700, 9}, {384, 0}, {400, 0}} {
		if v, e := file.Read(b.p, b.trees[0].root, 5, 700, x.off, x.n); string(v) != text(5, 709)[x.off:min(x.off+x.n, 700)] || e != api.OK {
			t.Errorf("%s: Read(%+v): %x, %d", b.what, x, v, e)
		}
		if _, size, e := file.Write(b.clone().p, b.trees[0].root, 5, 700, x.off, []byte(text(1, x.n))); size != max(700, x.off+x.n) || e != api.OK {
			t.Errorf("%s: Write(%+v): %d, %d", b.what, x, size, e)
		}
	}
	for _, to := range []int{512, 513, 699, 700, 8192} {
		if _, e := file.Resize(b.clone().p, b.trees[0].root, 5, 700, to); e != api.OK {
			t.Errorf("%s: Resize(%d): %d", b.what, to, e)
		}
	}
	for _, x := range []struct{ from, to, n int }{{0, 0, 3}, {4, 4, 9}, {0, 4, 3}, {4, 0, 2}} {
		for _, dst := range []int{5, 6} {
			if _, _, e := file.Clone(b.clone().p, b.trees[0].root, 5, 700, x.from, dst, 700, x.to, x.n); e != api.OK {
				t.Errorf("%s: Clone(%d, %+v): %d", b.what, dst, x, e)
			}
		}
	}
}

func TestItemsThatAreNoChunks(t *testing.T) {
	for _, others := range []int{0, 3000} {
		for _, v := range strange() {
			b := made(t, 128)
			b.what = fmt.Sprintf("%x", v)
			b.writes(t, 0, 5, 0, text(5, 700))
			b.writes(t, 0, 4, 0, text(4, others))
			b.puts(t, dataKey(5, 3), v)
			b.unchanged(t, func() {
				b.meets(t, api.ErrIO)
				b.refusesBlocks(t, 5, api.ErrIO)
				for _, to := range []int{0, 1, 128, 383, 384} {
					b.refusesResize(t, 5, 700, to, api.ErrIO)
				}
				for _, x := range []struct{ from, to, n int }{{0, 3, 1}, {0, 0, 6}, {4, 2, 2}, {5, 3, 64}} {
					b.refusesCloneOf(t, 4, 3000, x.from, 5, 700, x.to, min(x.n, 10), api.ErrIO)
					b.refusesCloneOf(t, 5, 700, x.from, 5, 700, x.to, x.n, api.ErrIO)
				}
				b.meets(t, api.ErrIO)
			})
			b.doesWithout(t)
			b.blocks(t, 0, 4)
		}
	}
}

// instead lets chunk 3 of a file 5 of 700 bytes be in some block. Its address may be of none.
func instead(t *testing.T, b *bench, a int) *bench {
	t.Helper()
	c := b.clone()
	c.what = fmt.Sprint("block ", a)
	c.p.Ref(a)
	c.puts(t, dataKey(5, 3), naming(a))
	return c
}

func TestBlocksThatAreNoneOfData(t *testing.T) {
	b := made(t, 128)
	b.writes(t, 0, 5, 0, text(5, 700))
	logs := []int{b.putsBytes(t, api.BlockLog, "ab"), b.putsBytes(t, api.BlockLog, text(1, 236))}
	node, e := b.p.PutNode(api.Node{Items: []api.Item{{Key: dataKey(1, 1), Value: []byte("a")}}})
	if e != api.OK {
		t.Fatal(e)
	}
	for range 2 {
		for _, a := range append(logs, node, b.trees[0].root, 1, 2, 127, 128, 2047) {
			c := instead(t, b, a)
			c.unchanged(t, func() { c.meets(t, api.ErrIO) })
			c.doesWithout(t)
			c.blocks(t, 0, 5)
		}
		b.remounts(t)
	}
}

// Errors of the pool.

// spoils turns a byte of a block on the disk while f runs.
func (b *bench) spoils(t *testing.T, a int, f func()) {
	t.Helper()
	for i := range 2 {
		if e := b.d.Corrupt(a, a*7%256, 1+a*3%255); e != api.OK {
			t.Fatalf("%s: Corrupt(%d): %d", b.what, a, e)
		}
		if i == 0 {
			f()
		}
	}
}

// A block that is spoilt is no other file's harm, and what goes wholly need not be read.
func TestSpoiltBlocks(t *testing.T) {
	b := made(t, 256)
	b.writes(t, 0, 4, 0, text(4, 1000))
	b.writes(t, 0, 5, 0, text(5, 700))
	b.remounts(t)
	b.spoils(t, b.addrs(t, 0, 5)[3], func() {
		b.unchanged(t, func() { b.meets(t, api.ErrIO) })
		b.doesWithout(t)
		b.blocks(t, 0, 5)
		b.readsAll(t, 0, 4)
		for _, to := range []int{0, 1, 383, 384} {
			c := b.clone()
			c.resizes(t, 0, 5, to)
			c.readsAll(t, 0, 5)
			c.sound(t)
		}
		c := b.clone()
		c.clones(t, 0, 4, 0, 5, 2, 3)
		c.readsAll(t, 0, 5)
		c.sound(t)
	})
	b.sound(t)
	b.readsAll(t, 0, 5)
}

// Each byte of a block, whichever bit is turned, is told.
func TestEachSpoiltByte(t *testing.T) {
	b := made(t, 64)
	b.writes(t, 0, 5, 0, text(5, 100))
	b.remounts(t)
	a := b.addrs(t, 0, 5)[0]
	for at := range 256 {
		for _, mask := range []int{1, 0x80, 0xff} {
			b.d.Corrupt(a, at, mask)
			b.refusesRead(t, 5, 100, 0, 1, api.ErrIO)
			b.refusesWrite(t, 5, 100, 0, 1, api.ErrIO)
			b.refusesResize(t, 5, 100, 50, api.ErrIO)
			b.d.Corrupt(a, at, mask)
		}
	}
	b.readsAll(t, 0, 5)
}

// fails asks all calls on file 5, of 700 bytes, for an error.
func (b *bench) fails(t *testing.T, want api.Errno) {
	t.Helper()
	b.refusesRead(t, 5, 700, 0, 700, want)
	b.clone().refusesWrite(t, 5, 700, 0, 700, want)
	b.clone().refusesResize(t, 5, 700, 0, want)
	b.clone().refusesClone(t, 700, 0, 0, 0, 64, want)
	b.clone().refusesCloneOf(t, 6, 700, 0, 5, 700, 0, 64, want)
	b.refusesBlocks(t, 5, want)
}

// leaves are the addresses of those with a file's items, and the nodes above them.
func (b *bench) leaves(t *testing.T, ino int) []int {
	t.Helper()
	var l []int
	for c := range chunks {
		if b.trees[0].file(ino).chunk(c) == "" {
			continue
		}
		way, e := find.Path(b.p, b.trees[0].root, dataKey(ino, c))
		if e != api.OK {
			t.Fatalf("%s: Path: %d", b.what, e)
		}
		l = append(l, way...)
	}
	slices.Sort(l)
	return slices.Compact(l)
}

// many is a tree of three levels with files beside file 5, of 700 bytes.
func many(t *testing.T) *bench {
	t.Helper()
	b := made(t, 512)
	for ino := 1; ino < 12; ino++ {
		for c := range 14 {
			b.writes(t, 0, ino, c*chunk, text(ino+c, []int{3, 30}[ino%2]))
		}
	}
	b.resizes(t, 0, 5, 0)
	b.writes(t, 0, 5, 0, text(5, 700))
	if h, e := find.Height(b.p, b.trees[0].root); h < 3 || e != api.OK {
		t.Fatalf("Height: %d, %d", h, e)
	}
	return b
}

func TestSpoiltNodes(t *testing.T) {
	b := many(t)
	b.remounts(t)
	for _, a := range b.leaves(t, 5) {
		b.spoils(t, a, func() { b.fails(t, api.ErrIO) })
	}
	b.sound(t)
}

func TestReleasedNodes(t *testing.T) {
	b := many(t)
	for range 2 {
		for _, a := range b.leaves(t, 5) {
			c := b.clone()
			if _, e := c.p.Unref(a); e != api.OK {
				t.Fatalf("Unref(%d): %d", a, e)
			}
			c.fails(t, api.ErrArg)
		}
		b.remounts(t)
	}
}

func TestThePowerOff(t *testing.T) {
	b := many(t)
	b.remounts(t)
	b.d.Fuse(0)
	b.d.Flush()
	b.fails(t, api.ErrPower)
	b.trees[0].root = 0
	b.refusesWrite(t, 5, 700, 8192, 1, api.ErrBig)
	b.refusesBlocks(t, 5, api.OK)
	if v, e := file.Read(b.p, 0, 5, 700, 0, 700); string(v) != noughts(700) || e != api.OK {
		t.Errorf("Read: %x, %d", v, e)
	}
}

// A new leaf may name blocks that are on the disk.
func TestThePowerOffOfABlock(t *testing.T) {
	b := made(t, 64)
	b.writes(t, 0, 5, 0, text(5, 700))
	b.remounts(t)
	b.writes(t, 0, 5, 0, text(5, 20))
	b.d.Fuse(0)
	b.d.Flush()
	for _, a := range b.leaves(t, 5) {
		if !b.p.Fresh(a) {
			t.Fatalf("node %d is not new", a)
		}
	}
	b.meets(t, api.ErrPower)
	b.blocks(t, 0, 5)
}

func TestRootsThatAreNone(t *testing.T) {
	b := many(t)
	data := b.addrs(t, 0, 5)[0]
	for _, a := range []int{math.MinInt, -1, 1, 2, data, 511, 512, 1<<32 + b.trees[0].root, math.MaxInt} {
		c := b.clone()
		c.trees[0].root = a
		c.unchanged(t, func() { c.fails(t, api.ErrArg) })
	}
}

// No item can be that of a number that no key has; nothing is read there but noughts.
func TestNumbersThatAreNone(t *testing.T) {
	b := many(t)
	for _, ino := range append([]int{maxNumber + 1, 1<<32 + 5, math.MaxInt}, negatives...) {
		b.unchanged(t, func() {
			for _, n := range []int{1, 24, 25, 128, 600} {
				b.refusesWrite(t, ino, 0, 0, n, api.ErrArg)
				b.refusesWrite(t, ino, 700, 100, n, api.ErrArg)
			}
			b.refusesCloneOf(t, 5, 700, 0, ino, 0, 0, 64, api.ErrArg)
			b.refusesCloneOf(t, 5, 700, 5, ino, 0, 5, 1, api.ErrArg)
			b.refusesBlocks(t, ino, api.OK)
			if root, size, e := file.Clone(b.p, b.trees[0].root, 5, 700, 0, ino, 50, 0, 0); root != b.trees[0].root || size != 50 || e != api.OK {
				t.Errorf("Clone of no chunks to %d: %d, %d, %d", ino, root, size, e)
			}
			if v, e := file.Read(b.p, b.trees[0].root, ino, 700, 0, 700); string(v) != noughts(700) || e != api.OK {
				t.Errorf("Read(%d): %x, %d", ino, v, e)
			}
		})
	}
}

// With 18 blocks free for each chunk (one for its bytes, 17 for the tree) there is room for any writing.
func TestRoomForWritings(t *testing.T) {
	t.Parallel()
	for seed := range 20 {
		r := rand.New(rand.NewPCG(160, uint64(seed)))
		b := made(t, 512)
		for b.p.Free() > 250 {
			b.writes(t, 0, r.IntN(9), r.IntN(40)*chunk, text(seed, r.IntN(256)))
		}
		b.holds(t, 0)
		b.fills(t, 150)
		b.remounts(t)
		b.fills(t, 90)
		off := r.IntN(8192 - 512)
		b.writes(t, 0, r.IntN(9), off, text(seed, 512))
		b.sound(t)
	}
}

// Without a free block nothing can be laid down; what needn't be can be done.
func TestAFullDisk(t *testing.T) {
	b := many(t)
	b.writes(t, 0, 14, 0, text(14, 150)+noughts(50))
	b.remounts(t)
	b.fills(t, 0)
	for _, n := range []int{1, 24, 25, 600} {
		b.clone().refusesWrite(t, 5, 700, 100, n, api.ErrSpace)
		b.clone().refusesWrite(t, 12, 0, 0, n, api.ErrSpace)
	}
	b.clone().refusesResize(t, 5, 700, 100, api.ErrSpace)
	b.clone().refusesResize(t, 5, 700, 0, api.ErrSpace)
	b.clone().refusesClone(t, 700, 0, 1667, 0, 1, api.ErrSpace)
	b.unchanged(t, func() {
		b.readsAll(t, 0, 5)
		b.blocks(t, 0, 5)
		b.writes(t, 0, 5, 700, "")
		b.writes(t, 0, 12, 0, noughts(600))
		b.resizes(t, 0, 5, 800)
		b.resizes(t, 0, 14, 151)
		b.resizes(t, 0, 14, 150)
		b.clones(t, 0, 12, 0, 13, 3, 2)
	})
	b.sound(t)
}

// R1

// Sizes that no file has are nobody's promise, but every call ends.
func TestSizesThatNoFileHas(t *testing.T) {
	b := mixed(t)
	sizes := append([]int{8193, 8320, maxNumber, math.MaxInt - 127, math.MaxInt}, negatives...)
	root := b.trees[0].root
	for _, size := range sizes {
		for _, n := range []int{0, 1, 300, math.MaxInt} {
			for _, off := range []int{0, 8191, 8192, math.MaxInt - 1, math.MaxInt} {
				file.Read(b.p, root, 5, size, off, n)
				file.Write(b.clone().p, root, 5, size, off, make([]byte, n%500))
				file.Resize(b.clone().p, root, 5, size, off)
			}
		}
		for _, other := range append(sizes, 0, 700, 8192) {
			for _, x := range []struct{ from, to, n int }{{0, 0, 0}, {0, 0, 64}, {64, 64, 64}, {63, 0, 1}, {0, 63, 1}, {5, 6, 7}} {
				file.Clone(b.clone().p, root, 5, size, x.from, 6, other, x.to, x.n)
				file.Clone(b.clone().p, root, 5, other, x.from, 5, size, x.to, x.n)
			}
		}
	}
	b.sound(t)
}

// R6, R7

// What is told is the caller's.
func TestWhatIsTold(t *testing.T) {
	b := mixed(t)
	b.writes(t, 0, 5, 2*chunk, text(50, 20))
	for range 2 {
		for _, x := range []struct{ off, n int }{{0, 1000}, {0, 128}, {3, 5}, {256, 10}, {384, 25}} {
			v, _ := file.Read(b.p, b.trees[0].root, 5, 1000, x.off, x.n)
			was := string(v)
			b.clone().writes(t, 0, 5, 0, text(70, 1000))
			if string(v) != was {
				t.Errorf("what was told became %x", v)
			}
			lent.Scribble(v)
			b.sound(t)
			b.readsAll(t, 0, 5)
		}
		l, _ := file.Blocks(b.p, b.trees[0].root, 5)
		for i := range l {
			l[i] = 0
		}
		b.blocks(t, 0, 5)
		b.remounts(t)
	}
}

// A clone goes its own way, and the same calls make the same of the same.
func TestTheSameAgain(t *testing.T) {
	b := mixed(t)
	var pictures [][]any
	for range 3 {
		c := b.clone()
		b.unchanged(t, func() {
			for i := range 9 {
				c.writes(t, 0, 5, i*77, text(i, 200))
				c.clones(t, 0, 5, i, 4+i%3, 9-i, 3)
				c.resizes(t, 0, 4, 900-i*90)
			}
		})
		c.sound(t)
		pictures = append(pictures, append(c.picture(), c.trees[0].root))
	}
	b.sound(t)
	if !reflect.DeepEqual(pictures[1], pictures[0]) || !reflect.DeepEqual(pictures[2], pictures[0]) {
		t.Error("the same calls made something else")
	}
}
