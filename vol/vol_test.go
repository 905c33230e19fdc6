package vol_test

import (
	"fmt"
	"maps"
	"math"
	"math/rand/v2"
	"reflect"
	"slices"
	"strings"
	"testing"

	"cambium/api"
	"cambium/dir"
	"cambium/drive"
	"cambium/edit"
	"cambium/find"
	"cambium/lent"
	"cambium/pool"
	"cambium/vol"
)

// least and greatest are keys that are ahead of and behind all that may be.
var (
	least    = api.Key{Obj: math.MinInt, Kind: math.MinInt, Off: math.MinInt}
	greatest = api.Key{Obj: math.MaxInt, Kind: math.MaxInt, Off: math.MaxInt}
)

// path is the names in a text with slashes between.
func path(s string) []string {
	if s == "" {
		return nil
	}
	return strings.Split(s, "/")
}

// text is so many bytes, none of them 0; another one for each seed.
func text(seed, n int) string {
	b := make([]byte, n)
	for i := range b {
		b[i] = byte(1 + (seed*37+i*7+i/chunk)%255)
	}
	return string(b)
}

// bench is a pool, and all that should be in it.
type bench struct {
	what  string
	p     *pool.Pool
	d     *drive.Drive
	trees []*tree
	own   map[int]int // how often the test itself references a block
}

// bare is a pool without subvolumes.
func bare(t *testing.T, sectors int) *bench {
	t.Helper()
	d, e := drive.New(sectors)
	if e != api.OK {
		t.Fatalf("New: %d", e)
	}
	p, e := pool.Format(d)
	if e != api.OK {
		t.Fatalf("Format: %d", e)
	}
	return &bench{"new", p, d, nil, map[int]int{}}
}

func made(t *testing.T, sectors int) *bench {
	t.Helper()
	b := bare(t, sectors)
	b.makes(t, "home")
	return b
}

func (b *bench) clone() *bench {
	c := &bench{b.what, b.p.Clone(), b.d, nil, maps.Clone(b.own)}
	for _, tr := range b.trees {
		c.trees = append(c.trees, tr.clone())
	}
	return c
}

// remounts commits, and mounts what was committed.
func (b *bench) remounts(t *testing.T) {
	t.Helper()
	if e := b.p.Commit(); e != api.OK {
		t.Fatalf("%s: Commit: %d", b.what, e)
	}
	p, e := pool.Mount(b.d)
	if e != api.OK {
		t.Fatalf("%s: Mount: %d", b.what, e)
	}
	b.p = p
}

// holds lets another subvolume have what one has.
func (b *bench) holds(t *testing.T, i int) {
	t.Helper()
	if e := b.p.Ref(b.trees[i].v.Root); e != api.OK {
		t.Fatalf("%s: Ref(%d): %d", b.what, b.trees[i].v.Root, e)
	}
	b.trees = append(b.trees, b.trees[i].clone())
}

// fills lets so many blocks be free.
func (b *bench) fills(t *testing.T, free int) {
	t.Helper()
	for b.p.Free() > free {
		a, e := b.p.PutBytes(api.BlockLog, nil)
		if e != api.OK {
			t.Fatalf("%s: PutBytes: %d", b.what, e)
		}
		b.own[a]++
	}
	if b.p.Free() != free {
		t.Fatalf("%s: %d are free, not %d", b.what, b.p.Free(), free)
	}
}

// puts lays an item down that is none of a subvolume's calls to lay down.
func (b *bench) puts(t *testing.T, k api.Key, v string) {
	t.Helper()
	root, e := edit.Put(b.p, b.trees[0].v.Root, k, []byte(v))
	if e != api.OK {
		t.Fatalf("%s: Put(%v): %d", b.what, k, e)
	}
	b.trees[0].v.Root = root
}

// lend is a list with spare capacity, which is as little a call's own as the list is.
func lend(names []string) []string {
	l := append(slices.Clone(names), "spare", "spare", "spare")
	return l[:len(names)]
}

// back holds what was lent against what it was, and spoils it then, so that what a call keeps shows.
func (b *bench) back(t *testing.T, l, names []string) {
	t.Helper()
	whole := l[:len(names)+3]
	if !slices.Equal(whole, append(slices.Clone(names), "spare", "spare", "spare")) {
		t.Fatalf("%s: %q became %q", b.what, names, whole)
	}
	for i := range whole {
		whole[i] = "spoilt"
	}
}

// takes holds what a change comes to against what the model says, and takes it over.
func (b *bench) takes(t *testing.T, i int, v api.Vol, e, want api.Errno, call string, args ...any) {
	t.Helper()
	tr := b.trees[i]
	if e != want {
		t.Fatalf("%s: %s%q: %d, not %d", b.what, call, args, e, want)
	}
	if e != api.OK {
		if v != (api.Vol{}) {
			t.Fatalf("%s: %s%q: %+v beside the error %d", b.what, call, args, v, e)
		}
		return
	}
	tr.v.Root = v.Root
	if v != tr.v || v.Root == 0 {
		t.Fatalf("%s: %s%q: %+v, not %+v", b.what, call, args, v, tr.v)
	}
}

// The calls, each asked for what the model says, an error too.

func (b *bench) makes(t *testing.T, label string) {
	t.Helper()
	v, e := vol.Make(b.p, label)
	if e != api.OK || v.Root == 0 || v != (api.Vol{Name: label, Root: v.Root, Next: 2}) {
		t.Fatalf("%s: Make(%q): %+v, %d", b.what, label, v, e)
	}
	b.trees = append(b.trees, planted(v))
}

func (b *bench) creates(t *testing.T, i int, names []string, kind int) int {
	t.Helper()
	tr, l := b.trees[i], lend(names)
	v, ino, e := vol.Create(b.p, tr.v, l, kind)
	b.back(t, l, names)
	wantIno, want := tr.create(names, kind)
	b.takes(t, i, v, e, want, "Create", names, fmt.Sprint(kind))
	if ino != wantIno {
		t.Fatalf("%s: Create(%q, %d): %d, not %d", b.what, names, kind, ino, wantIno)
	}
	return ino
}

func (b *bench) links(t *testing.T, i int, old, now []string) {
	t.Helper()
	tr, l, m := b.trees[i], lend(old), lend(now)
	v, e := vol.Link(b.p, tr.v, l, m)
	b.back(t, l, old)
	b.back(t, m, now)
	b.takes(t, i, v, e, tr.link(old, now), "Link", old, now)
}

func (b *bench) unlinks(t *testing.T, i int, names []string, keep bool) {
	t.Helper()
	tr, l := b.trees[i], lend(names)
	v, e := vol.Unlink(b.p, tr.v, l, keep)
	b.back(t, l, names)
	b.takes(t, i, v, e, tr.unlink(names, keep), "Unlink", names, fmt.Sprint(keep))
}

func (b *bench) rmdirs(t *testing.T, i int, names []string) {
	t.Helper()
	tr, l := b.trees[i], lend(names)
	v, e := vol.Rmdir(b.p, tr.v, l)
	b.back(t, l, names)
	b.takes(t, i, v, e, tr.rmdir(names), "Rmdir", names)
}

func (b *bench) renames(t *testing.T, i int, old, now []string, keep bool) {
	t.Helper()
	tr, l, m := b.trees[i], lend(old), lend(now)
	v, e := vol.Rename(b.p, tr.v, l, m, keep)
	b.back(t, l, old)
	b.back(t, m, now)
	b.takes(t, i, v, e, tr.rename(old, now, keep), "Rename", old, now, fmt.Sprint(keep))
}

func (b *bench) reads(t *testing.T, i, ino, off, n int) {
	t.Helper()
	tr := b.trees[i]
	v, e := vol.Read(b.p, tr.v, ino, off, n)
	if w, want := tr.read(ino, off, n); string(v) != w || e != want {
		t.Fatalf("%s: Read(%d, %d, %d): %q, %d, not %q, %d", b.what, ino, off, n, v, e, w, want)
	}
}

func (b *bench) writes(t *testing.T, i, ino, off int, s string) {
	t.Helper()
	tr, l := b.trees[i], lent.Bytes(s)
	v, e := vol.Write(b.p, tr.v, ino, off, l)
	if !lent.Untouched(l, s) {
		t.Fatalf("%s: Write(%d, %d) changed what was handed in", b.what, ino, off)
	}
	lent.Scribble(l)
	b.takes(t, i, v, e, tr.write(ino, off, s), "Write", fmt.Sprint(ino, off, len(s)))
}

func (b *bench) resizes(t *testing.T, i, ino, to int) {
	t.Helper()
	tr := b.trees[i]
	v, e := vol.Resize(b.p, tr.v, ino, to)
	b.takes(t, i, v, e, tr.resize(ino, to), "Resize", fmt.Sprint(ino, to))
}

func (b *bench) clones(t *testing.T, i, src, from, dst, to, n int) {
	t.Helper()
	tr := b.trees[i]
	v, e := vol.Clone(b.p, tr.v, src, from, dst, to, n)
	b.takes(t, i, v, e, tr.copyChunks(src, from, dst, to, n), "Clone", fmt.Sprint(src, from, dst, to, n))
}

func (b *bench) reaps(t *testing.T, i, ino int) {
	t.Helper()
	tr := b.trees[i]
	v, e := vol.Reap(b.p, tr.v, ino)
	b.takes(t, i, v, e, tr.reap(ino), "Reap", fmt.Sprint(ino))
}

// stats holds what is told of an inode and of names against what it should be.
func (b *bench) stats(t *testing.T, i, ino int) {
	t.Helper()
	tr := b.trees[i]
	s, e := vol.Stat(b.p, tr.v, ino)
	if w, want := tr.stat(ino); s != w || e != want {
		t.Fatalf("%s: Stat(%d): %+v, %d, not %+v, %d", b.what, ino, s, e, w, want)
	}
	l, e := vol.List(b.p, tr.v, ino)
	if w, want := tr.list(ino); !slices.Equal(l, w) || e != want {
		t.Fatalf("%s: List(%d): %+v, %d, not %+v, %d", b.what, ino, l, e, w, want)
	}
}

func (b *bench) finds(t *testing.T, i int, names []string) {
	t.Helper()
	tr, l := b.trees[i], lend(names)
	s, e := vol.Find(b.p, tr.v, l)
	b.back(t, l, names)
	ino, want := tr.find(names)
	w, _ := tr.stat(ino)
	if want != api.OK {
		w = api.Stat{}
	}
	if s != w || e != want {
		t.Fatalf("%s: Find(%q): %+v, %d, not %+v, %d", b.what, names, s, e, w, want)
	}
}

func (b *bench) orphans(t *testing.T, i int) {
	t.Helper()
	l, e := vol.Orphans(b.p, b.trees[i].v)
	if want := b.trees[i].orphans(); !slices.Equal(l, want) || e != api.OK {
		t.Fatalf("%s: Orphans: %v, %d, not %v", b.what, l, e, want)
	}
}

// tellsAll asks for all that can be told of a subvolume.
func (b *bench) tellsAll(t *testing.T, i int) {
	t.Helper()
	tr := b.trees[i]
	for ino, n := range tr.inodes {
		b.stats(t, i, ino)
		if n.kind == api.File {
			b.reads(t, i, ino, 0, maxFile)
		}
	}
	for _, names := range tr.paths() {
		b.finds(t, i, names)
	}
	b.orphans(t, i)
}

// paths are all that there are, the top directory's first.
func (tr *tree) paths() [][]string {
	var below func(ino int, names []string) [][]string
	below = func(ino int, names []string) [][]string {
		l := [][]string{names}
		entries, _ := tr.list(ino)
		for _, x := range entries {
			l = append(l, below(x.Ino, append(slices.Clone(names), x.Name))...)
		}
		return l
	}
	return below(1, nil)
}

// names tells which block a value references, as chapter 6 says it.
func names(k api.Key, v []byte) (int, bool) {
	if k.Kind != 3 || len(v) != 3 || v[0] != 1 {
		return 0, false
	}
	return int(v[1])<<8 + int(v[2]), true
}

// walk counts the references of a node and of those below it, once.
func (b *bench) walk(t *testing.T, a int, refs map[int]int) {
	t.Helper()
	refs[a]++
	if refs[a] > 1 {
		return
	}
	n, e := b.p.Node(a)
	if e != api.OK {
		t.Fatalf("%s: Node(%d): %d", b.what, a, e)
	}
	for _, x := range n.Kids {
		b.walk(t, x.Addr, refs)
	}
	for _, x := range n.Items {
		if to, is := names(x.Key, x.Value); is {
			refs[to]++
		}
	}
}

// stored is what an item says, with a chunk's bytes, wherever they are.
func (b *bench) stored(t *testing.T, x api.Item) string {
	t.Helper()
	if x.Key.Kind != 3 {
		return string(x.Value)
	}
	a, is := names(x.Key, x.Value)
	if !is {
		return strings.TrimPrefix(string(x.Value), "\x00")
	}
	v, e := b.p.Bytes(a, api.BlockData)
	if e != api.OK || len(v) <= maxInline {
		t.Fatalf("%s: item %v is in block %d: %x, %d", b.what, x.Key, a, v, e)
	}
	return string(v)
}

// sound holds a whole pool against what should be in it, item by item.
func (b *bench) sound(t *testing.T) {
	t.Helper()
	refs := maps.Clone(b.own)
	for i, tr := range b.trees {
		l, e := find.Scan(b.p, tr.v.Root, least, greatest, math.MaxInt)
		items := tr.items()
		if len(l) != len(items) || e != api.OK {
			t.Fatalf("%s: tree %d has %d items, %d, not %d", b.what, i, len(l), e, len(items))
		}
		for _, x := range l {
			want, is := items[x.Key]
			if v := b.stored(t, x); !is || v != want {
				t.Fatalf("%s: tree %d has the item %v, %x, not %x (%t)", b.what, i, x.Key, v, want, is)
			}
		}
		b.walk(t, tr.v.Root, refs)
	}
	for a := range b.d.Size() {
		if b.p.Count(a) != refs[a] {
			t.Fatalf("%s: block %d has the count %d, not %d", b.what, a, b.p.Count(a), refs[a])
		}
	}
}

// picture is all that can be seen of a pool and its disk.
func (b *bench) picture() []any {
	l := []any{b.p.Super(), b.p.Free(), b.d.Steps(), b.d.Cached(), b.d.On()}
	for a := range b.d.Size() {
		n, e := b.p.Node(a)
		v, f := b.p.Bytes(a, api.BlockData)
		w, g := b.p.Bytes(a, api.BlockLog)
		x, h := b.d.Read(a)
		l = append(l, b.p.Count(a), b.p.Fresh(a), n, e, v, f, w, g, x, h)
	}
	return l
}

// unchanged asks for a pool and its disk to be what they were after f.
func (b *bench) unchanged(t *testing.T, f func()) {
	t.Helper()
	was := b.picture()
	f()
	if !reflect.DeepEqual(b.picture(), was) {
		t.Errorf("%s: the pool is not what it was", b.what)
	}
}

// trial tries a call on a bench: where the model says an error, on the bench itself, else on a clone of it that must be sound then.
func (b *bench) trial(t *testing.T, says func(*tree) api.Errno, does func(*bench)) {
	t.Helper()
	if says(b.trees[0].clone()) != api.OK {
		does(b)
		return
	}
	c := b.clone()
	does(c)
	c.sound(t)
}

// grove is a tree with directories up to three deep, some of them empty, with files of several names and sizes, and with orphans.
func grove(t *testing.T, sectors int) *bench {
	t.Helper()
	b := made(t, sectors)
	for _, x := range []struct {
		path string
		kind int
		size int
	}{
		{"a", api.Dir, 0}, {"f", api.File, 10}, {"a/b", api.Dir, 0}, {"a/b/f", api.File, 300}, {"a/e", api.Dir, 0}, {"a/f", api.File, 0},
		{"d", api.Dir, 0}, {"h", api.File, 128}, {"a/b/d", api.Dir, 0}, {"e", api.Dir, 0}, {"a/b/o", api.File, 500}, {"o", api.File, 3},
	} {
		ino := b.creates(t, 0, path(x.path), x.kind)
		if x.kind == api.File {
			b.writes(t, 0, ino, 0, text(ino, x.size))
		}
	}
	for _, x := range [][2]string{{"a/b/f", "g"}, {"f", "a/g"}, {"g", "a/b/g"}} {
		b.links(t, 0, path(x[0]), path(x[1]))
	}
	b.unlinks(t, 0, path("o"), true)
	b.unlinks(t, 0, path("a/b/o"), true)
	b.sound(t)
	b.tellsAll(t, 0)
	return b
}

// ways are names that lead somewhere in a grove, names that lead nowhere, and names beyond a file.
func ways() [][]string {
	l := [][]string{nil}
	for _, s := range strings.Fields("a b d e f g h o x a/a a/b a/d a/e a/f a/g a/x b/b d/d d/x e/e f/f f/x g/x h/a x/a x/x") {
		l = append(l, path(s))
	}
	for _, s := range strings.Fields("a/a/a a/b/b a/b/d a/b/f a/b/g a/b/o a/b/x a/e/x a/e/f a/f/x a/g/g d/x/x f/x/x x/a/b a/b/d/x a/b/d/f a/b/f/x a/b/d/x/y a/b/d/f/g") {
		l = append(l, path(s))
	}
	return l
}

// The chapter's examples.

func TestTheExamples(t *testing.T) {
	p := made(t, 64).p
	v, e := vol.Make(p, "home")
	if e != api.OK {
		t.Fatal(e)
	}
	v, ino, e := vol.Create(p, v, []string{"d"}, api.Dir)
	if ino != 2 || e != api.OK {
		t.Error(ino, e)
	}
	v, ino, e = vol.Create(p, v, []string{"d", "f"}, api.File)
	if ino != 3 || e != api.OK {
		t.Error(ino, e)
	}
	if s, e := vol.Find(p, v, []string{"d", "f"}); s != (api.Stat{Ino: 3, Kind: api.File, Links: 1, Size: 0}) || e != api.OK {
		t.Error(s, e)
	}
	if v, e := vol.Rename(p, v, []string{"d"}, []string{"d", "e"}, false); v != (api.Vol{}) || e != api.ErrLoop {
		t.Error(v, e)
	}
	if v, e := vol.Rmdir(p, v, []string{"d"}); v != (api.Vol{}) || e != api.ErrFull {
		t.Error(v, e)
	}
	if s, e := vol.Find(p, v, []string{"d", "f", "g"}); s != (api.Stat{}) || e != api.ErrNotDir {
		t.Error(s, e)
	}
}

// P17.1

func TestLabels(t *testing.T) {
	b := bare(t, 512)
	free := b.p.Free()
	for _, s := range []string{"a", "z", "0", "9", "-", "abcdefghij", "----------", "0123456789", "a-b"} {
		b.makes(t, s)
		b.sound(t)
		b.tellsAll(t, len(b.trees)-1)
	}
	if b.p.Free() != free-len(b.trees) {
		t.Errorf("%d are free behind %d subvolumes, ahead of them %d", b.p.Free(), len(b.trees), free)
	}
	for c := range 256 {
		is := c >= 'a' && c <= 'z' || c >= '0' && c <= '9' || c == '-'
		for _, s := range []string{string([]byte{byte(c)}), "ab" + string([]byte{byte(c)}), string([]byte{byte(c)}) + "ab"} {
			v, e := vol.Make(b.p.Clone(), s)
			if is != (e == api.OK) || !is && (v != (api.Vol{}) || e != api.ErrArg) {
				t.Errorf("Make(%q): %+v, %d", s, v, e)
			}
		}
	}
}

func TestLabelsThatAreNone(t *testing.T) {
	b := made(t, 64)
	check := func() {
		for _, s := range []string{"", "A", "homE", "a b", "a_b", "a/b", "/", ".", "..", "ä", "\x00", "a\x00", "abcdefghijk", strings.Repeat("a", 300)} {
			if v, e := vol.Make(b.p, s); v != (api.Vol{}) || e != api.ErrArg {
				t.Errorf("Make(%q): %+v, %d", s, v, e)
			}
		}
	}
	b.unchanged(t, check)
	b.fills(t, 0)
	b.unchanged(t, check)
	if v, e := vol.Make(b.p, "home"); v != (api.Vol{}) || e != api.ErrSpace {
		t.Errorf("Make on a full disk: %+v, %d", v, e)
	}
}

// What a subvolume is called and whether it is read only is nothing to any call, and stays.
func TestNamesOfSubvolumesStay(t *testing.T) {
	b := grove(t, 128)
	b.trees[0].v.ReadOnly = true
	b.trees[0].v.Name = "other"
	b.creates(t, 0, path("n"), api.File)
	b.creates(t, 0, path("m"), api.Dir)
	b.links(t, 0, path("n"), path("m/n"))
	b.writes(t, 0, 4, 0, "a")
	b.resizes(t, 0, 4, 5)
	b.clones(t, 0, 5, 0, 4, 1, 1)
	b.renames(t, 0, path("m/n"), path("m/q"), true)
	b.renames(t, 0, path("m/q"), path("h"), true)
	b.unlinks(t, 0, path("h"), true)
	b.unlinks(t, 0, path("n"), true)
	b.rmdirs(t, 0, path("m"))
	b.reaps(t, 0, 12)
	b.sound(t)
}

// P17.2

func TestEachWay(t *testing.T) {
	b := grove(t, 128)
	for range 2 {
		b.unchanged(t, func() {
			for _, l := range ways() {
				b.finds(t, 0, l)
				for _, m := range ways() {
					b.finds(t, 0, append(slices.Clone(l), m...))
				}
			}
		})
		b.remounts(t)
	}
}

// oddInos are numbers that no inode has.
var oddInos = []int{math.MinInt, -1 << 31, -2, -1, 0, 14, 15, 256, 65537, maxNumber, maxNumber + 1, 1<<32 + 1, 1<<32 + 4, math.MaxInt}

func TestEachNumber(t *testing.T) {
	b := grove(t, 128)
	for range 2 {
		b.unchanged(t, func() {
			for ino := range 40 {
				b.stats(t, 0, ino)
			}
			for _, ino := range oddInos {
				b.stats(t, 0, ino)
			}
		})
		b.remounts(t)
	}
}

func TestOrphans(t *testing.T) {
	b := made(t, 256)
	b.orphans(t, 0)
	for i := range 40 {
		b.creates(t, 0, path(fmt.Sprint("f", i)), api.File)
	}
	b.orphans(t, 0)
	for i := range 40 {
		b.unlinks(t, 0, path(fmt.Sprint("f", i*17%40)), i%4 != 0)
		b.sound(t)
		b.unchanged(t, func() { b.orphans(t, 0) })
	}
	b.remounts(t)
	b.orphans(t, 0)
	for i := range 40 {
		b.reaps(t, 0, 2+i*7%40)
		b.sound(t)
		b.orphans(t, 0)
	}
}

// The least and the greatest number that an orphan can have.
func TestOrphansAtTheEnds(t *testing.T) {
	b := made(t, 64)
	b.creates(t, 0, path("a"), api.File)
	b.trees[0].v.Next = maxNumber - 1
	b.creates(t, 0, path("b"), api.File)
	b.unlinks(t, 0, path("a"), true)
	b.unlinks(t, 0, path("b"), true)
	b.sound(t)
	b.tellsAll(t, 0)
	b.reaps(t, 0, maxNumber-1)
	b.reaps(t, 0, 2)
	b.tellsAll(t, 0)
}

// P17.3

func TestEachCreation(t *testing.T) {
	t.Parallel()
	b := grove(t, 128)
	full := b.clone()
	full.trees[0].v.Next = maxNumber
	for range 2 {
		for _, c := range []*bench{b, full} {
			c.unchanged(t, func() {
				for _, l := range ways() {
					for _, kind := range []int{math.MinInt, -1, 0, api.File, api.Dir, api.Pipe, 257, 1<<32 + 1, math.MaxInt} {
						says := func(tr *tree) api.Errno { _, e := tr.create(l, kind); return e }
						c.trial(t, says, func(d *bench) { d.creates(t, 0, l, kind) })
					}
				}
			})
			c.remounts(t)
		}
	}
}

func TestTheLastNumber(t *testing.T) {
	b := grove(t, 128)
	for _, kind := range []int{api.File, api.Dir} {
		c := b.clone()
		c.trees[0].v.Next = maxNumber - 2
		c.creates(t, 0, path("m"), kind)
		c.creates(t, 0, path("n"), kind)
		c.sound(t)
		c.tellsAll(t, 0)
		c.unchanged(t, func() {
			c.creates(t, 0, path("q"), api.File)
			c.creates(t, 0, path("a/q"), api.Dir)
			c.creates(t, 0, path("n"), api.File) // which there is
			c.creates(t, 0, path("h/q"), api.File)
			c.creates(t, 0, path("q/q"), api.File)
			c.creates(t, 0, nil, api.File)
			c.creates(t, 0, path("q"), api.Pipe)
		})
		if c.trees[0].v.Next != maxNumber {
			t.Errorf("Next is %d", c.trees[0].v.Next)
		}
	}
}

// A number is given once: not even the last one, of what is gone, comes again.
func TestNumbersGoOn(t *testing.T) {
	b := made(t, 64)
	for i := range 20 {
		kind := 1 + i%2
		if ino := b.creates(t, 0, path("x"), kind); ino != i+2 {
			t.Errorf("%d instead of %d", ino, i+2)
		}
		b.sound(t)
		if kind == api.Dir {
			b.rmdirs(t, 0, path("x"))
		} else {
			b.unlinks(t, 0, path("x"), false)
		}
		b.sound(t)
	}
}

// Any name that may be, as long and as odd as may be.
func TestNames(t *testing.T) {
	b := made(t, 256)
	l := []string{"a", "A", " ", "...", "..a", ".a", "-", "\xff", "\x01", "ä", "a b", "\n", strings.Repeat("x", 20), strings.Repeat(".", 20), "aa", "ab", "a\xff"}
	for i, s := range l {
		b.creates(t, 0, []string{s}, 1+i%2)
		b.sound(t)
	}
	for i, s := range l {
		b.creates(t, 0, []string{s, s}, 2-i%2) // below a directory; beyond a file nothing
		b.sound(t)
	}
	b.tellsAll(t, 0)
	for i, s := range l {
		b.renames(t, 0, []string{s}, []string{"x" + l[len(l)-1-i][1:]}, false)
		b.sound(t)
	}
	b.tellsAll(t, 0)
}

func TestADeepTree(t *testing.T) {
	b := made(t, 512)
	var names []string
	for i := range 90 {
		names = append(names, fmt.Sprint("d", i%3))
		b.creates(t, 0, names, api.Dir)
	}
	b.sound(t)
	b.tellsAll(t, 0)
	b.creates(t, 0, append(slices.Clone(names), "f"), api.File)
	b.renames(t, 0, names[:1], names, false)
	b.renames(t, 0, names[:40], append(slices.Clone(names), "x"), false)
	b.renames(t, 0, names[:40], path("x"), false)
	b.sound(t)
	b.tellsAll(t, 0)
	b.rmdirs(t, 0, names[:39])
	b.sound(t)
}

func TestAWideDirectory(t *testing.T) {
	b := made(t, 512)
	for i := range 150 {
		b.creates(t, 0, path(fmt.Sprint("f", i*37%150)), 1+i%2)
	}
	b.sound(t)
	b.tellsAll(t, 0)
	for i := range 150 {
		s := path(fmt.Sprint("f", i*37%150))
		switch {
		case i%3 == 0:
			b.renames(t, 0, s, path(fmt.Sprint("g", i)), false)
		case i%2 == 0:
			b.unlinks(t, 0, s, false)
		default:
			b.rmdirs(t, 0, s)
		}
	}
	b.sound(t)
	b.tellsAll(t, 0)
}

// P17.4

// pairs are two of the ways each.
func pairs(f func(old, now []string)) {
	for _, old := range ways() {
		for _, now := range ways() {
			f(old, now)
		}
	}
}

func TestEachLink(t *testing.T) {
	t.Parallel()
	b := grove(t, 128)
	for range 2 {
		b.unchanged(t, func() {
			pairs(func(old, now []string) {
				says := func(tr *tree) api.Errno { return tr.link(old, now) }
				b.trial(t, says, func(c *bench) { c.links(t, 0, old, now) })
			})
		})
		b.remounts(t)
	}
}

// linked lets a file's inode tell that so many entries name it.
func (b *bench) linked(t *testing.T, ino, links int) {
	t.Helper()
	n := b.trees[0].inodes[ino]
	n.links = links
	b.puts(t, inodeKey(ino), inodeValue(n.kind, links, n.size()))
}

func TestTheMostLinks(t *testing.T) {
	b := grove(t, 128)
	for _, ino := range []int{3, 5} {
		b.linked(t, ino, maxLinks)
	}
	b.unchanged(t, func() {
		pairs(func(old, now []string) {
			says := func(tr *tree) api.Errno { return tr.link(old, now) }
			b.trial(t, says, func(c *bench) { c.links(t, 0, old, now) })
		})
	})
	b.unlinks(t, 0, path("f"), false)
	b.links(t, 0, path("a/g"), path("m"))
	b.links(t, 0, path("m"), path("n"))
	b.renames(t, 0, path("a/f"), path("a/g"), false)
	b.links(t, 0, path("m"), path("n"))
	b.links(t, 0, path("m"), path("q"))
	b.sound(t)
	b.tellsAll(t, 0)
}

// A file has as many links as names, and stays as long as it has one.
func TestManyLinks(t *testing.T) {
	b := made(t, 256)
	b.creates(t, 0, path("d"), api.Dir)
	b.creates(t, 0, path("f"), api.File)
	b.writes(t, 0, 3, 0, text(1, 300))
	for i := range 50 {
		b.links(t, 0, path("f"), path(fmt.Sprint("d/g", i)))
		b.sound(t)
	}
	b.unlinks(t, 0, path("f"), true)
	b.tellsAll(t, 0)
	for i := range 50 {
		b.reads(t, 0, 3, 0, 300)
		b.unlinks(t, 0, path(fmt.Sprint("d/g", i*7%50)), i%2 == 0)
		b.sound(t)
		b.orphans(t, 0)
	}
	b.tellsAll(t, 0)
}

func TestEachUnlinkAndRmdir(t *testing.T) {
	t.Parallel()
	b := grove(t, 128)
	for range 2 {
		b.unchanged(t, func() {
			for _, l := range ways() {
				for _, keep := range []bool{false, true} {
					says := func(tr *tree) api.Errno { return tr.unlink(l, keep) }
					b.trial(t, says, func(c *bench) { c.unlinks(t, 0, l, keep) })
				}
				says := func(tr *tree) api.Errno { return tr.rmdir(l) }
				b.trial(t, says, func(c *bench) { c.rmdirs(t, 0, l) })
			}
		})
		b.remounts(t)
	}
}

// What a call says of no names it says without reading.
func TestNoNames(t *testing.T) {
	b := grove(t, 128)
	b.trees[0].v.Root = 1 << 20 // which can't be read
	v := b.trees[0].v
	b.creates(t, 0, nil, api.File)
	b.creates(t, 0, nil, api.Dir)
	b.creates(t, 0, nil, api.Pipe)
	b.creates(t, 0, path("x"), api.Pipe)
	b.unlinks(t, 0, nil, false)
	b.rmdirs(t, 0, nil)
	b.renames(t, 0, nil, nil, false)
	b.renames(t, 0, nil, path("x"), false)
	b.renames(t, 0, path("x"), nil, false)
	if _, e := vol.Make(b.p, ""); e != api.ErrArg {
		t.Errorf("Make: %d", e)
	}
	if b.trees[0].v != v {
		t.Errorf("%+v became %+v", v, b.trees[0].v)
	}
}

// P17.5

func TestEachRename(t *testing.T) {
	t.Parallel()
	b := grove(t, 128)
	for range 2 {
		b.unchanged(t, func() {
			pairs(func(old, now []string) {
				for _, keep := range []bool{false, true} {
					says := func(tr *tree) api.Errno { return tr.rename(old, now, keep) }
					b.trial(t, says, func(c *bench) { c.renames(t, 0, old, now, keep) })
				}
			})
		})
		b.remounts(t)
	}
}

// An inode's own names change nothing, wherever they stand.
func TestRenamesToTheSame(t *testing.T) {
	b := grove(t, 128)
	paths := b.trees[0].paths()[1:]
	for range 2 {
		b.unchanged(t, func() {
			n := 0
			for _, old := range paths {
				for _, now := range paths {
					ino, _ := b.trees[0].find(old)
					if other, _ := b.trees[0].find(now); other != ino {
						continue
					}
					n++
					v, e := vol.Rename(b.p, b.trees[0].v, old, now, n%2 == 0)
					if v != b.trees[0].v || e != api.OK {
						t.Errorf("Rename(%q, %q): %+v, %d, not %+v", old, now, v, e, b.trees[0].v)
					}
				}
			}
			if n < len(paths)+8 {
				t.Errorf("%d such renames", n)
			}
		})
		b.remounts(t)
	}
}

// What was renamed leads on to all that it had, and what was replaced is gone.
func TestRenamesOfWholeTrees(t *testing.T) {
	b := grove(t, 128)
	for _, x := range [][2]string{
		{"a/b", "d"}, {"d", "a/e"}, {"a", "e"}, {"e/e", "b"}, {"e", "b/d"}, {"b/d/f", "b/d/g"}, {"b/d", "a"}, {"b/f", "a/g"}, {"a", "a"}, {"h", "a/f"}, {"b", "a/b"}, {"a/b/g", "b"},
	} {
		b.what = x[0] + " to " + x[1]
		b.renames(t, 0, path(x[0]), path(x[1]), false)
		b.sound(t)
		b.tellsAll(t, 0)
	}
}

// The entry that comes is behind all others, that which goes too; the one that is replaced stands where it stood.
func TestThePlacesOfEntries(t *testing.T) {
	b := made(t, 64)
	for _, s := range []string{"a", "b", "c"} {
		b.creates(t, 0, path(s), api.File)
	}
	b.renames(t, 0, path("c"), path("d"), false)
	b.renames(t, 0, path("d"), path("a"), false)
	b.sound(t)
	if x, e := find.Get(b.p, b.trees[0].v.Root, entryKey(1, 0)); string(x) != entryValue(api.Entry{Name: "a", Ino: 4, Kind: api.File}) || e != api.OK {
		t.Errorf("the first entry is %x, %d", x, e)
	}
	b.renames(t, 0, path("a"), path("e"), false)
	b.sound(t)
	if x, e := find.Get(b.p, b.trees[0].v.Root, entryKey(1, 2)); string(x) != entryValue(api.Entry{Name: "e", Ino: 4, Kind: api.File}) || e != api.OK {
		t.Errorf("the last entry is %x, %d", x, e)
	}
}

// P17.6

// someSizes are of offsets, lengths and sizes.
var someSizes = []int{math.MinInt, -1, 0, 1, 24, 25, 127, 128, 129, 299, 300, 301, 1000, 8000, 8191, 8192, 8193, maxNumber, 1 << 32, math.MaxInt}

// allInos are the numbers of a grove's inodes, and some that it has not.
func allInos() []int {
	l := slices.Clone(oddInos)
	for ino := range 14 {
		l = append(l, ino)
	}
	return l
}

func TestEachRead(t *testing.T) {
	b := grove(t, 128)
	for range 2 {
		b.unchanged(t, func() {
			for _, ino := range allInos() {
				for _, off := range someSizes {
					for _, n := range someSizes {
						b.reads(t, 0, ino, off, n)
					}
				}
			}
		})
		b.remounts(t)
	}
}

func TestEachWrite(t *testing.T) {
	t.Parallel()
	b := grove(t, 128)
	b.unchanged(t, func() {
		for _, ino := range allInos() {
			for _, off := range someSizes {
				for _, n := range []int{0, 1, 24, 25, 129, 512} {
					s := text(off%99, n)
					b.trial(t, func(tr *tree) api.Errno { return tr.write(ino, off, s) }, func(c *bench) {
						c.writes(t, 0, ino, off, s)
						c.stats(t, 0, ino)
						c.reads(t, 0, ino, 0, maxFile)
					})
				}
			}
		}
	})
}

func TestEachResize(t *testing.T) {
	t.Parallel()
	b := grove(t, 128)
	b.unchanged(t, func() {
		for _, ino := range allInos() {
			for _, to := range someSizes {
				b.trial(t, func(tr *tree) api.Errno { return tr.resize(ino, to) }, func(c *bench) {
					c.resizes(t, 0, ino, to)
					c.stats(t, 0, ino)
					c.reads(t, 0, ino, 0, maxFile)
				})
			}
		}
	})
}

func TestEachClone(t *testing.T) {
	t.Parallel()
	b := grove(t, 128)
	inos := []int{0, 1, 2, 3, 5, 7, 12, 1<<32 + 5}
	numbers := []int{-1, 0, 1, 2, 63, 64, 65}
	b.unchanged(t, func() {
		for _, src := range inos {
			for _, dst := range inos {
				for i := range len(numbers) * len(numbers) * len(numbers) {
					from, to, n := numbers[i%len(numbers)], numbers[i/len(numbers)%len(numbers)], numbers[i/len(numbers)/len(numbers)]
					b.trial(t, func(tr *tree) api.Errno { return tr.copyChunks(src, from, dst, to, n) }, func(c *bench) {
						c.clones(t, 0, src, from, dst, to, n)
						c.stats(t, 0, dst)
						c.reads(t, 0, dst, 0, maxFile)
					})
				}
			}
		}
	})
}

// Which inode is none is told ahead of which is a directory, and that ahead of what the bytes' calls say; the one copied from ahead of the other.
func TestTheOrderOfErrors(t *testing.T) {
	b := grove(t, 128)
	b.unchanged(t, func() {
		for _, x := range []struct {
			src, dst int
			want     api.Errno
		}{{1, 99, api.ErrNone}, {99, 1, api.ErrNone}, {98, 99, api.ErrNone}, {1, 2, api.ErrIsDir}, {3, 2, api.ErrIsDir}, {2, 3, api.ErrIsDir}, {3, 5, api.ErrArg}} {
			if v, e := vol.Clone(b.p, b.trees[0].v, x.src, -1, x.dst, -1, -1); v != (api.Vol{}) || e != x.want {
				t.Errorf("Clone(%d, %d): %+v, %d, not %d", x.src, x.dst, v, e, x.want)
			}
		}
		for ino, want := range map[int]api.Errno{99: api.ErrNone, 1: api.ErrIsDir, 3: api.ErrArg} {
			if l, e := vol.Read(b.p, b.trees[0].v, ino, -1, -1); len(l) != 0 || e != want {
				t.Errorf("Read(%d): %x, %d, not %d", ino, l, e, want)
			}
			if v, e := vol.Write(b.p, b.trees[0].v, ino, -1, make([]byte, 9000)); v != (api.Vol{}) || e != want {
				t.Errorf("Write(%d): %+v, %d, not %d", ino, v, e, want)
			}
			if v, e := vol.Resize(b.p, b.trees[0].v, ino, -1); v != (api.Vol{}) || e != want {
				t.Errorf("Resize(%d): %+v, %d, not %d", ino, v, e, want)
			}
		}
	})
}

// A clone names the blocks that there are.
func TestClonesShare(t *testing.T) {
	b := made(t, 64)
	b.creates(t, 0, path("f"), api.File)
	b.creates(t, 0, path("g"), api.File)
	b.writes(t, 0, 2, 0, text(1, 600))
	free := b.p.Free()
	b.clones(t, 0, 2, 0, 3, 0, 64)
	b.sound(t)
	if b.p.Free() < free-3 {
		t.Errorf("%d are free, ahead of the clone %d", b.p.Free(), free)
	}
	b.unlinks(t, 0, path("f"), false)
	b.sound(t)
	b.reads(t, 0, 3, 0, 600)
}

// An orphan's bytes are read and written as any other file's.
func TestBytesOfOrphans(t *testing.T) {
	b := grove(t, 128)
	for _, ino := range b.trees[0].orphans() {
		b.writes(t, 0, ino, 600, text(ino, 200))
		b.clones(t, 0, ino, 3, 5, 1, 2)
		b.clones(t, 0, 5, 0, ino, 9, 9)
		b.resizes(t, 0, ino, 1201)
		b.sound(t)
		b.tellsAll(t, 0)
	}
}

// P17.7

func TestEachReaping(t *testing.T) {
	b := grove(t, 128)
	for range 2 {
		b.unchanged(t, func() {
			for _, ino := range allInos() {
				b.trial(t, func(tr *tree) api.Errno { return tr.reap(ino) }, func(c *bench) {
					c.reaps(t, 0, ino)
					c.orphans(t, 0)
					c.stats(t, 0, ino)
					c.reaps(t, 0, ino) // once more: there is none
				})
			}
		})
		b.remounts(t)
	}
}

// P17.8

// empties removes all that is in a subvolume, the deepest first.
func (b *bench) empties(t *testing.T, i int, keep bool) {
	t.Helper()
	tr := b.trees[i]
	l := tr.paths()[1:]
	slices.Reverse(l)
	for _, names := range l {
		if ino, _ := tr.find(names); tr.inodes[ino].kind == api.Dir {
			b.rmdirs(t, i, names)
		} else {
			b.unlinks(t, i, names, keep)
		}
	}
	for _, ino := range tr.orphans() {
		b.reaps(t, i, ino)
	}
}

func TestAllThatIsRemovedIsFree(t *testing.T) {
	empty := made(t, 128)
	for _, keep := range []bool{false, true} {
		b := grove(t, 128)
		b.writes(t, 0, 3, 5000, text(1, 600))
		b.empties(t, 0, keep)
		b.sound(t)
		b.tellsAll(t, 0)
		if b.p.Free() != empty.p.Free() {
			t.Errorf("%d are free, not %d", b.p.Free(), empty.p.Free())
		}
	}
}

// story is changes of any kind to any subvolume.
func story(t *testing.T, b *bench, r *rand.Rand, steps int) {
	t.Helper()
	labels := "abcde"
	way := func() []string {
		var l []string
		for range r.IntN(4) + r.IntN(2) {
			l = append(l, string(labels[r.IntN(len(labels))]))
		}
		return l
	}
	for range steps {
		i := r.IntN(len(b.trees))
		tr := b.trees[i]
		some := func() []string { // more often one that there is
			if l := tr.paths(); r.IntN(3) > 0 {
				return l[r.IntN(len(l))]
			}
			return way()
		}
		ino := func() int { return 1 + r.IntN(tr.v.Next) }
		switch r.IntN(12) {
		case 0, 1, 2:
			b.creates(t, i, way(), 1+r.IntN(2))
		case 3:
			b.links(t, i, some(), way())
		case 4:
			b.unlinks(t, i, some(), r.IntN(2) == 0)
		case 5:
			b.rmdirs(t, i, some())
		case 6, 7:
			b.renames(t, i, some(), some(), r.IntN(2) == 0)
		case 8:
			b.writes(t, i, ino(), r.IntN(700), text(r.IntN(99), r.IntN(200)))
		case 9:
			b.resizes(t, i, ino(), r.IntN(900))
		case 10:
			b.clones(t, i, ino(), r.IntN(3), ino(), r.IntN(5), r.IntN(5))
		case 11:
			if l := tr.orphans(); len(l) > 0 {
				b.reaps(t, i, l[r.IntN(len(l))])
			}
		}
		b.sound(t)
	}
	for i := range b.trees {
		b.tellsAll(t, i)
	}
}

func TestManyChanges(t *testing.T) {
	t.Parallel()
	for seed := range 12 {
		r := rand.New(rand.NewPCG(170, uint64(seed)))
		b := bare(t, 1024)
		free := b.p.Free()
		b.makes(t, "one")
		story(t, b, r, 60)
		b.holds(t, 0)
		b.makes(t, "two")
		story(t, b, r, 60)
		b.remounts(t)
		b.holds(t, 1)
		story(t, b, r, 60)
		for i := range b.trees {
			b.empties(t, i, seed%2 == 0)
		}
		b.sound(t)
		b.remounts(t)
		if b.p.Free() != free-len(b.trees) {
			t.Errorf("%d are free, ahead of all %d", b.p.Free(), free)
		}
	}
}

// Another subvolume that has the same tree goes on having what it had.
func TestSnapshots(t *testing.T) {
	b := grove(t, 256)
	for range 2 {
		c := b.clone()
		c.holds(t, 0)
		c.writes(t, 0, 5, 100, text(1, 100))
		c.renames(t, 0, path("a/b"), path("e"), false)
		c.sound(t)
		c.unlinks(t, 1, path("g"), false)
		c.creates(t, 1, path("a/b/d/x"), api.Dir)
		c.sound(t)
		c.holds(t, 1)
		c.empties(t, 1, true)
		c.sound(t)
		c.empties(t, 0, false)
		c.sound(t)
		c.tellsAll(t, 2)
		b.remounts(t)
	}
}

// Errors of the pool.

// calls are all that may be made on a grove, each with some sense in it: what a change comes to, and what else is told.
func calls() map[string]func(p *pool.Pool, v api.Vol) (api.Vol, any, api.Errno) {
	change := func(f func(p *pool.Pool, v api.Vol) (api.Vol, api.Errno)) func(p *pool.Pool, v api.Vol) (api.Vol, any, api.Errno) {
		return func(p *pool.Pool, v api.Vol) (api.Vol, any, api.Errno) {
			w, e := f(p, v)
			return w, nil, e
		}
	}
	return map[string]func(p *pool.Pool, v api.Vol) (api.Vol, any, api.Errno){
		"create": func(p *pool.Pool, v api.Vol) (api.Vol, any, api.Errno) {
			w, ino, e := vol.Create(p, v, path("a/b/x"), api.File)
			return w, ino, e
		},
		"mkdir": func(p *pool.Pool, v api.Vol) (api.Vol, any, api.Errno) {
			w, ino, e := vol.Create(p, v, path("x"), api.Dir)
			return w, ino, e
		},
		"link": change(func(p *pool.Pool, v api.Vol) (api.Vol, api.Errno) {
			return vol.Link(p, v, path("a/b/f"), path("d/x"))
		}),
		"unlink": change(func(p *pool.Pool, v api.Vol) (api.Vol, api.Errno) { return vol.Unlink(p, v, path("h"), false) }),
		"keep":   change(func(p *pool.Pool, v api.Vol) (api.Vol, api.Errno) { return vol.Unlink(p, v, path("h"), true) }),
		"one":    change(func(p *pool.Pool, v api.Vol) (api.Vol, api.Errno) { return vol.Unlink(p, v, path("g"), true) }),
		"rmdir":  change(func(p *pool.Pool, v api.Vol) (api.Vol, api.Errno) { return vol.Rmdir(p, v, path("a/b/d")) }),
		"move": change(func(p *pool.Pool, v api.Vol) (api.Vol, api.Errno) {
			return vol.Rename(p, v, path("a/b"), path("d/x"), true)
		}),
		"replace": change(func(p *pool.Pool, v api.Vol) (api.Vol, api.Errno) {
			return vol.Rename(p, v, path("f"), path("h"), false)
		}),
		"orphan": change(func(p *pool.Pool, v api.Vol) (api.Vol, api.Errno) {
			return vol.Rename(p, v, path("f"), path("h"), true)
		}),
		"into": change(func(p *pool.Pool, v api.Vol) (api.Vol, api.Errno) {
			return vol.Rename(p, v, path("f"), path("e/x"), true)
		}),
		"over": change(func(p *pool.Pool, v api.Vol) (api.Vol, api.Errno) {
			return vol.Rename(p, v, path("a/b"), path("d"), true)
		}),
		"write":  change(func(p *pool.Pool, v api.Vol) (api.Vol, api.Errno) { return vol.Write(p, v, 5, 250, make([]byte, 300)) }),
		"inside": change(func(p *pool.Pool, v api.Vol) (api.Vol, api.Errno) { return vol.Write(p, v, 5, 250, []byte("ab")) }),
		"cut":    change(func(p *pool.Pool, v api.Vol) (api.Vol, api.Errno) { return vol.Resize(p, v, 5, 200) }),
		"grow":   change(func(p *pool.Pool, v api.Vol) (api.Vol, api.Errno) { return vol.Resize(p, v, 5, 1000) }),
		"clone":  change(func(p *pool.Pool, v api.Vol) (api.Vol, api.Errno) { return vol.Clone(p, v, 5, 0, 3, 1, 3) }),
		"reap":   change(func(p *pool.Pool, v api.Vol) (api.Vol, api.Errno) { return vol.Reap(p, v, 12) }),
		"find": func(p *pool.Pool, v api.Vol) (api.Vol, any, api.Errno) {
			s, e := vol.Find(p, v, path("a/b/f"))
			return api.Vol{}, s, e
		},
		"top": func(p *pool.Pool, v api.Vol) (api.Vol, any, api.Errno) {
			s, e := vol.Find(p, v, nil)
			return api.Vol{}, s, e
		},
		"stat": func(p *pool.Pool, v api.Vol) (api.Vol, any, api.Errno) {
			s, e := vol.Stat(p, v, 5)
			return api.Vol{}, s, e
		},
		"list": func(p *pool.Pool, v api.Vol) (api.Vol, any, api.Errno) {
			l, e := vol.List(p, v, 2)
			return api.Vol{}, l, e
		},
		"orphans": func(p *pool.Pool, v api.Vol) (api.Vol, any, api.Errno) {
			l, e := vol.Orphans(p, v)
			return api.Vol{}, l, e
		},
		"read": func(p *pool.Pool, v api.Vol) (api.Vol, any, api.Errno) {
			b, e := vol.Read(p, v, 5, 0, 300)
			return api.Vol{}, b, e
		},
	}
}

// zero tells whether nothing was told.
func zero(x any) bool {
	v := reflect.ValueOf(x)
	return x == nil || v.IsZero() || v.Kind() == reflect.Slice && v.Len() == 0
}

// fails asks all calls for an error, and for nothing beside it.
func (b *bench) fails(t *testing.T, want api.Errno) {
	t.Helper()
	for what, f := range calls() {
		if v, x, e := f(b.p.Clone(), b.trees[0].v); v != (api.Vol{}) || !zero(x) || e != want {
			t.Errorf("%s: %s: %+v, %+v, %d, not %d", b.what, what, v, x, e, want)
		}
	}
}

// spoils turns a byte of a block on the disk while f runs.
func (b *bench) spoils(t *testing.T, a int, f func()) {
	t.Helper()
	for i := range 2 {
		if e := b.d.Corrupt(a, a*7%256, 1+a*3%255); e != api.OK {
			t.Fatalf("%s: Corrupt(%d): %d", b.what, a, e)
		}
		if i == 0 {
			f()
		}
	}
}

// reached are the blocks of a subvolume.
func (b *bench) reached(t *testing.T) []int {
	t.Helper()
	refs := map[int]int{}
	b.walk(t, b.trees[0].v.Root, refs)
	return slices.Sorted(maps.Keys(refs))
}

// A block that is spoilt is told by the calls that need it, and no call tells anything else than without.
func TestSpoiltBlocks(t *testing.T) {
	b := grove(t, 256)
	for i := range 16 {
		b.creates(t, 0, path(fmt.Sprint("e/n", i)), 1+i%2)
	}
	b.remounts(t)
	failed := map[string]int{}
	for _, a := range b.reached(t) {
		for what, f := range calls() {
			wantVol, want, wantError := f(b.p.Clone(), b.trees[0].v)
			if wantError != api.OK {
				t.Fatalf("%s: %d", what, wantError)
			}
			b.spoils(t, a, func() {
				v, x, e := f(b.p.Clone(), b.trees[0].v)
				switch {
				case e == api.ErrIO && v == (api.Vol{}) && zero(x):
					failed[what]++
				case e != api.OK || v != wantVol || !reflect.DeepEqual(x, want):
					t.Errorf("block %d: %s: %+v, %+v, %d, not %+v, %+v", a, what, v, x, e, wantVol, want)
				}
			})
		}
	}
	for what := range calls() {
		if failed[what] < 2 {
			t.Errorf("%s fails without %d of the blocks", what, failed[what])
		}
	}
	b.sound(t)
}

// Whether a name is there must be known ahead of what is said of too many.
func TestSpoiltBlocksAndTooMany(t *testing.T) {
	b := grove(t, 256)
	for i := range 16 {
		b.creates(t, 0, path(fmt.Sprint("e/n", i)), 1+i%2)
	}
	b.trees[0].v.Next = maxNumber
	b.linked(t, 3, maxLinks)
	b.remounts(t)
	v, met := b.trees[0].v, 0
	for _, a := range b.reached(t) {
		b.spoils(t, a, func() {
			_, up := vol.Find(b.p, v, path("e"))
			_, old := vol.Find(b.p, v, path("f"))
			want := api.ErrMany
			if _, e := dir.Look(b.p, v.Root, 11, "x"); e == api.ErrIO {
				want = e
				if up == api.OK && old == api.OK {
					met++
				}
			}
			if w, n, e := vol.Create(b.p, v, path("e/x"), api.File); w != (api.Vol{}) || n != 0 || e != want && e != up {
				t.Errorf("block %d: Create: %+v, %d, %d, not %d", a, w, n, e, want)
			}
			if w, e := vol.Link(b.p, v, path("f"), path("e/x")); w != (api.Vol{}) || e != want && e != up && e != old {
				t.Errorf("block %d: Link: %+v, %d, not %d", a, w, e, want)
			}
		})
	}
	if met == 0 {
		t.Error("no block has entries alone")
	}
}

// A file whose bytes can't be read is rid of as any other.
func TestSpoiltBytes(t *testing.T) {
	b := grove(t, 128)
	b.remounts(t)
	l, e := find.Scan(b.p, b.trees[0].v.Root, dataKey(5, 0), dataKey(5, chunks), math.MaxInt)
	if len(l) != 3 || e != api.OK {
		t.Fatalf("Scan: %v, %d", l, e)
	}
	a, _ := names(l[1].Key, l[1].Value)
	b.spoils(t, a, func() {
		b.unchanged(t, func() {
			if v, e := vol.Read(b.p, b.trees[0].v, 5, 0, 300); len(v) != 0 || e != api.ErrIO {
				t.Errorf("Read: %x, %d", v, e)
			}
			if v, e := vol.Write(b.p, b.trees[0].v, 5, 130, []byte("a")); v != (api.Vol{}) || e != api.ErrIO {
				t.Errorf("Write: %+v, %d", v, e)
			}
		})
		b.reads(t, 0, 5, 0, 128)
		c := b.clone()
		c.resizes(t, 0, 5, 100)
		c.sound(t)
		c = b.clone()
		for _, s := range []string{"g", "a/b/f", "a/b/g"} {
			c.unlinks(t, 0, path(s), false)
		}
		c.sound(t)
	})
}

func TestTheRootSpoilt(t *testing.T) {
	b := grove(t, 128)
	b.remounts(t)
	b.spoils(t, b.trees[0].v.Root, func() { b.fails(t, api.ErrIO) })
	b.tellsAll(t, 0)
}

func TestThePowerOff(t *testing.T) {
	b := grove(t, 128)
	b.remounts(t)
	b.d.Fuse(0)
	b.d.Flush()
	b.fails(t, api.ErrPower)
}

func TestRootsThatAreNone(t *testing.T) {
	b := grove(t, 128)
	for _, a := range []int{math.MinInt, -1, 1, 127, 128, math.MaxInt} {
		c := b.clone()
		c.trees[0].v.Root = a
		c.unchanged(t, func() { c.fails(t, api.ErrArg) })
	}
}

// Without a free block nothing can be laid down; what needn't be can be done.
func TestAFullDisk(t *testing.T) {
	b := grove(t, 256)
	b.remounts(t)
	b.fills(t, 0)
	for what, f := range calls() {
		v, x, e := f(b.p.Clone(), b.trees[0].v)
		if tells := slices.Contains(strings.Fields("find top stat list orphans read"), what); tells == (e != api.OK) || !tells && (v != (api.Vol{}) || !zero(x) || e != api.ErrSpace) {
			t.Errorf("%s: %+v, %+v, %d", what, v, x, e)
		}
	}
	b.unchanged(t, func() {
		b.tellsAll(t, 0)
		b.renames(t, 0, path("f"), path("f"), false)
		b.renames(t, 0, path("f"), path("a/g"), false)
		b.renames(t, 0, path("a"), path("a"), false)
		b.writes(t, 0, 5, 9, "")
		b.resizes(t, 0, 5, 300)
		b.clones(t, 0, 5, 0, 3, 0, 0)
		b.creates(t, 0, path("f"), api.File)
	})
}

// With fewer and fewer free blocks a call succeeds wholly, or tells that there is no room; behind the bounds of chapter 24 there always is.
func TestRoom(t *testing.T) {
	t.Parallel()
	for seed := range 2 {
		r := rand.New(rand.NewPCG(171, uint64(seed)))
		b := made(t, 1024)
		for i := 0; b.p.Free() > 500; i++ {
			up := path(fmt.Sprint("d", i/7))
			b.creates(t, 0, up, api.Dir)
			ino := b.creates(t, 0, append(up, fmt.Sprint("f", i)), api.File)
			b.writes(t, 0, ino, 0, text(i, r.IntN(700)))
		}
		up := path(fmt.Sprint("d", r.IntN(9)))
		ino := b.creates(t, 0, path("big"), api.File)
		b.writes(t, 0, ino, 0, text(1, 4000))
		b.holds(t, 0)
		b.remounts(t)
		for _, free := range []int{0, 1, 2, 3, 4, 5, 6, 7, 8, 9, 10, 12, 14, 16, 17, 18, 20, 25, 30, 40, 50, 51, 52, 106, 107, 108} {
			c := b.clone()
			c.fills(t, free)
			names := append(slices.Clone(up), "dir")
			if v, n, e := vol.Create(c.p.Clone(), c.trees[0].v, names, api.Dir); e == api.OK || free >= 51 {
				c.creates(t, 0, names, api.Dir)
				c.sound(t)
			} else if v != (api.Vol{}) || n != 0 || e != api.ErrSpace {
				t.Errorf("%d are free: Create: %+v, %d, %d", free, v, n, e)
			}
			c = b.clone()
			c.fills(t, free)
			if v, e := vol.Write(c.p.Clone(), c.trees[0].v, ino, 3900, []byte(text(2, 512))); e == api.OK || free >= 107 {
				c.writes(t, 0, ino, 3900, text(2, 512))
				c.sound(t)
			} else if v != (api.Vol{}) || e != api.ErrSpace {
				t.Errorf("%d are free: Write: %+v, %d", free, v, e)
			}
			c = b.clone()
			c.fills(t, free)
			if v, e := vol.Make(c.p.Clone(), "two"); e == api.OK || free >= 17 {
				c.makes(t, "two")
				c.sound(t)
			} else if v != (api.Vol{}) || e != api.ErrSpace {
				t.Errorf("%d are free: Make: %+v, %d", free, v, e)
			}
		}
	}
}

// Items that no subvolume has.

func TestInodesThatAreNone(t *testing.T) {
	b := grove(t, 128)
	for _, s := range []string{"", "\x01", "\x01\x00\x01\x00\x00\x00", "\x01\x00\x01\x00\x00\x00\x00\x00", "\x00\x00\x01\x00\x00\x00\x00", "\x03\x00\x01\x00\x00\x00\x00", "\x01\x00\x01\x80\x00\x00\x00"} {
		c := b.clone()
		c.what = fmt.Sprintf("%x", s)
		c.puts(t, inodeKey(5), s)
		v := c.trees[0].v
		c.unchanged(t, func() {
			for what, e := range map[string]api.Errno{
				"Find":   second(vol.Find(c.p, v, path("g"))),
				"Stat":   second(vol.Stat(c.p, v, 5)),
				"List":   second(vol.List(c.p, v, 5)),
				"Link":   second(vol.Link(c.p, v, path("g"), path("x"))),
				"Unlink": second(vol.Unlink(c.p, v, path("g"), true)),
				"Rename": second(vol.Rename(c.p, v, path("g"), path("x"), true)),
				"over":   second(vol.Rename(c.p, v, path("h"), path("g"), true)),
				"Read":   second(vol.Read(c.p, v, 5, 0, 1)),
				"Write":  second(vol.Write(c.p, v, 5, 0, []byte("a"))),
				"Resize": second(vol.Resize(c.p, v, 5, 0)),
				"Clone":  second(vol.Clone(c.p, v, 3, 0, 5, 0, 1)),
				"from":   second(vol.Clone(c.p, v, 5, 0, 3, 0, 1)),
			} {
				if e != api.ErrIO {
					t.Errorf("%s: %s: %d", c.what, what, e)
				}
			}
		})
		c.reads(t, 0, 3, 0, 99)
	}
}

func second[T any](_ T, e api.Errno) api.Errno { return e }

// An entry or an orphan that names no inode is the tree's fault: whoever meets it is told so, and changes nothing.
func TestNamesOfNoInode(t *testing.T) {
	b := grove(t, 128)
	for _, ino := range []int{5, 12} {
		root, e := edit.Delete(b.p, b.trees[0].v.Root, inodeKey(ino))
		if e != api.OK {
			t.Fatalf("Delete: %d", e)
		}
		b.trees[0].v.Root = root
	}
	v := b.trees[0].v
	b.unchanged(t, func() {
		for what, e := range map[string]api.Errno{
			"Find":   second(vol.Find(b.p, v, path("g"))),
			"Link":   second(vol.Link(b.p, v, path("g"), path("x"))),
			"Unlink": second(vol.Unlink(b.p, v, path("g"), true)),
			"Rmdir":  second(vol.Rmdir(b.p, v, path("g"))),
			"Rename": second(vol.Rename(b.p, v, path("g"), path("x"), true)),
			"over":   second(vol.Rename(b.p, v, path("h"), path("g"), true)),
			"Reap":   second(vol.Reap(b.p, v, 12)),
		} {
			if e != api.ErrIO {
				t.Errorf("%s: %d", what, e)
			}
		}
		if s, e := vol.Stat(b.p, v, 5); s != (api.Stat{}) || e != api.ErrNone {
			t.Errorf("Stat: %+v, %d", s, e)
		}
	})
}

// A directory whose inode says that there is less in it than there is, or that has none.
func TestDirectoriesThatCannotBe(t *testing.T) {
	b := grove(t, 128)
	wrong := b.clone()
	wrong.puts(t, inodeKey(2), inodeValue(api.Dir, 1, 0))
	missing := b.clone()
	root, e := edit.Delete(missing.p, b.trees[0].v.Root, inodeKey(2))
	if e != api.OK {
		t.Fatalf("Delete: %d", e)
	}
	missing.trees[0].v.Root = root
	for _, c := range []*bench{wrong, missing} {
		v := c.trees[0].v
		for what, e := range map[string]api.Errno{
			"Unlink": second(vol.Unlink(c.p.Clone(), v, path("a/f"), true)),
			"Rmdir":  second(vol.Rmdir(c.p.Clone(), v, path("a/e"))),
			"Rename": second(vol.Rename(c.p.Clone(), v, path("a/e"), path("x"), true)),
		} {
			if e != api.ErrIO {
				t.Errorf("%s: %d", what, e)
			}
		}
	}
}

// R1

// Names that may not be are nobody's promise, but every call ends, and changes nothing where it tells an error.
func TestNamesThatMayNotBe(t *testing.T) {
	b := grove(t, 128)
	b.unchanged(t, func() {
		v := b.trees[0].v
		for _, s := range []string{"", strings.Repeat("x", 21), strings.Repeat("x", 300)} {
			for _, l := range [][]string{{s}, {"a", s}, {s, "a"}, {"a", s, "b"}, {"f", s}} {
				if w, n, e := vol.Create(b.p, v, l, api.File); w != (api.Vol{}) || n != 0 || e == api.OK {
					t.Errorf("Create(%q): %+v, %d, %d", l, w, n, e)
				}
				for what, e := range map[string]api.Errno{
					"Find":   second(vol.Find(b.p, v, l)),
					"Link":   second(vol.Link(b.p, v, path("h"), l)),
					"old":    second(vol.Link(b.p, v, l, path("x"))),
					"Unlink": second(vol.Unlink(b.p, v, l, false)),
					"Rmdir":  second(vol.Rmdir(b.p, v, l)),
					"Rename": second(vol.Rename(b.p, v, path("h"), l, false)),
					"dir":    second(vol.Rename(b.p, v, path("a"), l, false)),
					"from":   second(vol.Rename(b.p, v, l, path("x"), false)),
				} {
					if e == api.OK {
						t.Errorf("%s(%q): no error", what, l)
					}
				}
			}
		}
	})
}

// A subvolume of which there is nothing.
func TestTheZeroSubvolume(t *testing.T) {
	b := made(t, 64)
	b.unchanged(t, func() {
		for what, f := range calls() {
			if v, x, e := f(b.p, api.Vol{}); v != (api.Vol{}) || !zero(x) || (e == api.OK) != (what == "orphans") {
				t.Errorf("%s: %+v, %+v, %d", what, v, x, e)
			}
		}
	})
}

// R6, R7

// What is told is the caller's.
func TestWhatIsTold(t *testing.T) {
	b := grove(t, 128)
	for range 2 {
		for _, ino := range []int{3, 5, 9} {
			l, e := vol.Read(b.p, b.trees[0].v, ino, 0, maxFile)
			if len(l) == 0 || e != api.OK {
				t.Fatalf("Read: %x, %d", l, e)
			}
			lent.Scribble(l)
		}
		l, _ := vol.List(b.p, b.trees[0].v, 1)
		for i := range l[:cap(l)] {
			l[:cap(l)][i] = api.Entry{Name: "spoilt"}
		}
		m, _ := vol.Orphans(b.p, b.trees[0].v)
		for i := range m[:cap(m)] {
			m[:cap(m)][i] = 7
		}
		b.sound(t)
		b.tellsAll(t, 0)
		b.remounts(t)
	}
}

// A clone goes its own way, and the same calls make the same of the same.
func TestTheSameAgain(t *testing.T) {
	b := grove(t, 512)
	var pictures [][]any
	for range 3 {
		c := b.clone()
		b.unchanged(t, func() { story(t, c, rand.New(rand.NewPCG(172, 1)), 60) })
		pictures = append(pictures, append(c.picture(), c.trees[0].v))
	}
	b.sound(t)
	if !reflect.DeepEqual(pictures[1], pictures[0]) || !reflect.DeepEqual(pictures[2], pictures[0]) {
		t.Error("the same calls made something else")
	}
}
