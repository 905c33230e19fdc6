package pool_test

import (
	"bytes"
	"encoding/binary"
	"maps"
	"math"
	"math/rand/v2"
	"reflect"
	"slices"
	"strings"
	"testing"

	"cambium/api"
	"cambium/drive"
	"cambium/lent"
	"cambium/node"
	"cambium/pool"
	"cambium/seal"
	"cambium/super"
)

// sizes are numbers of sectors: the edges, those that fill an area's sector or have one more, and some between.
var sizes = []int{32, 33, 117, 118, 119, 236, 237, 512, 1000, 2047, 2048}

// nowhere are sectors that no disk has.
var nowhere = []int{math.MinInt, -65536, -2, -1, 2048, 2049, 65536, 1 << 40, math.MaxInt}

// wrongKinds are of no block of bytes.
var wrongKinds = []int{math.MinInt, -5, -1, 0, 1, 2, 3, 4, 7, 8, 255, 256 + 5, 256 + 6, math.MaxInt}

// area is how many sectors the counts of n sectors fill, first the first sector behind both areas, areaAt where that of a generation is, as the chapters tell it.
func area(n int) int {
	l := 0
	for l*118 < n {
		l++
	}
	return l
}

func first(n int) int { return 2 + 2*area(n) }

func areaAt(n, gen int) int {
	if gen%2 == 1 {
		return 2 + area(n)
	}
	return 2
}

// op is what is done to a disk: the write of a block, or, of none, a flush.
type op struct {
	sector int
	b      []byte
}

func (o op) on(d *drive.Drive) api.Errno {
	if o.b == nil {
		return d.Flush()
	}
	return d.Write(o.sector, o.b)
}

// done does them one by one, up to the first that fails.
func done(d *drive.Drive, ops []op) api.Errno {
	for _, o := range ops {
		if e := o.on(d); e != api.OK {
			return e
		}
	}
	return api.OK
}

func sealed(t *testing.T, h api.Head, body []byte) []byte {
	t.Helper()
	b, e := seal.Seal(h, body)
	if e != api.OK {
		t.Fatalf("Seal(%+v): %d", h, e)
	}
	return b
}

// countsOps are the writes of the counts of a generation.
func countsOps(t *testing.T, n, gen int, now map[int]int) []op {
	t.Helper()
	bodies := make([]byte, area(n)*236)
	for a, x := range now {
		binary.BigEndian.PutUint16(bodies[2*a:], uint16(x))
	}
	var ops []op
	for i := range area(n) {
		a := areaAt(n, gen) + i
		ops = append(ops, op{a, sealed(t, api.Head{Kind: 2, Addr: a, Gen: gen}, bodies[236*i:][:236])})
	}
	return ops
}

func superOp(t *testing.T, s api.Super, slot int) op {
	t.Helper()
	b, e := super.Write(s, slot)
	if e != api.OK {
		t.Fatalf("Write(%+v): %d", s, e)
	}
	return op{slot, b}
}

// lastOps are those that end a commit.
func lastOps(t *testing.T, s api.Super, now map[int]int) []op {
	t.Helper()
	return append(countsOps(t, s.Sectors, s.Gen, now), op{}, superOp(t, s, s.Gen%2), op{})
}

func formatOps(t *testing.T, n int) []op {
	t.Helper()
	blank := make([]byte, 256)
	return append([]op{{0, blank}, {1, blank}, {}}, lastOps(t, api.Super{Gen: 1, Sectors: n}, nil)...)
}

// held is a block: a node, or bytes of a kind.
type held struct {
	kind int // 0: a node
	n    api.Node
	b    string
}

func (h held) block(t *testing.T, a, gen int) []byte {
	t.Helper()
	if h.kind != 0 {
		return sealed(t, api.Head{Kind: h.kind, Addr: a, Count: len(h.b), Gen: gen}, []byte(h.b))
	}
	b, e := node.Write(h.n, a, gen)
	if e != api.OK {
		t.Fatalf("Write(%+v, %d, %d): %d", h.n, a, gen, e)
	}
	return b
}

// model is a pool as the chapter tells it: what is committed beside what is not. Sectors that aren't in a map have the count 0.
type model struct {
	s, top      api.Super // top is committed
	now, was    map[int]int
	fresh, kept map[int]held
}

func modelOf(n int) *model {
	s := api.Super{Gen: 1, Sectors: n}
	return &model{s, s, map[int]int{}, map[int]int{}, map[int]held{}, map[int]held{}}
}

func (m *model) isFree(a int) bool {
	return a >= first(m.s.Sectors) && a < m.s.Sectors && m.now[a] == 0 && m.was[a] == 0
}

func (m *model) frees() []int {
	var l []int
	for a := range m.s.Sectors {
		if m.isFree(a) {
			l = append(l, a)
		}
	}
	return l
}

func (m *model) put(h held) (int, api.Errno) {
	l := m.frees()
	if len(l) == 0 {
		return 0, api.ErrSpace
	}
	m.now[l[0]], m.fresh[l[0]] = 1, h
	return l[0], api.OK
}

// at tells a sector's block, and whether it is new.
func (m *model) at(a int) (held, bool) {
	if m.was[a] == 0 {
		return m.fresh[a], true
	}
	return m.kept[a], false
}

func (m *model) node(a int) (api.Node, api.Errno) {
	h, fresh := m.at(a)
	switch {
	case m.now[a] == 0:
		return api.Node{}, api.ErrArg
	case h.kind == 0:
		return h.n, api.OK
	case fresh:
		return api.Node{}, api.ErrArg
	}
	return api.Node{}, api.ErrIO
}

func (m *model) bytes(a, kind int) (string, api.Errno) {
	h, fresh := m.at(a)
	switch {
	case m.now[a] == 0 || kind != 5 && kind != 6:
		return "", api.ErrArg
	case h.kind == kind:
		return h.b, api.OK
	case fresh:
		return "", api.ErrArg
	}
	return "", api.ErrIO
}

// next is the superblock that a commit writes.
func (m *model) next() api.Super {
	s := m.s
	s.Gen++
	return s
}

func (m *model) ops(t *testing.T) []op {
	t.Helper()
	var ops []op
	for a := range m.s.Sectors {
		if m.now[a] != 0 && m.was[a] == 0 {
			ops = append(ops, op{a, m.fresh[a].block(t, a, m.s.Gen+1)})
		}
	}
	return append(ops, lastOps(t, m.next(), m.now)...)
}

func (m *model) commit() {
	for a, h := range m.fresh {
		m.kept[a] = h
	}
	m.s = m.next()
	m.top, m.was, m.fresh = m.s, maps.Clone(m.now), map[int]held{}
}

// back is what was committed last.
func (m *model) back() {
	m.s, m.now, m.fresh = m.top, maps.Clone(m.was), map[int]held{}
}

func (m *model) clone() *model {
	return &model{m.s, m.top, maps.Clone(m.now), maps.Clone(m.was), maps.Clone(m.fresh), maps.Clone(m.kept)}
}

// value has n bytes that differ.
func value(n int) string {
	var b strings.Builder
	for i := range n {
		b.WriteByte(byte(i*7 + n + 1))
	}
	return b.String()
}

func leaf(n, off int) api.Node {
	var l api.Node
	for i := range n {
		l.Items = append(l.Items, api.Item{Key: api.Key{Obj: 1, Kind: 3, Off: off + i}, Value: []byte(value(i * 11 % 29))})
	}
	return l
}

func inner(level, n, off int) api.Node {
	l := api.Node{Level: level}
	for i := range n {
		l.Kids = append(l.Kids, api.Kid{Key: api.Key{Obj: 2, Kind: 1, Off: off + i}, Addr: 1 + (off+i)%2047})
	}
	return l
}

// wrong are nodes that may not be.
func wrong() []api.Node {
	falling := leaf(2, 0)
	slices.Reverse(falling.Items)
	long := leaf(1, 0)
	long.Items[0].Value = make([]byte, 29)
	both := leaf(1, 0)
	both.Kids = inner(1, 2, 0).Kids
	nameless := inner(1, 2, 0)
	nameless.Kids[1].Addr = 0
	return []api.Node{{}, {Level: 1}, {Level: -1}, leaf(7, 0), inner(1, 1, 0), inner(1, 13, 0), inner(8, 2, 0), inner(0, 2, 0), falling, long, both, nameless}
}

func sameNode(a, b api.Node) bool {
	return a.Level == b.Level && slices.Equal(a.Kids, b.Kids) && slices.EqualFunc(a.Items, b.Items, func(x, y api.Item) bool {
		return x.Key == y.Key && bytes.Equal(x.Value, y.Value)
	})
}

func disk(t *testing.T, n int) *drive.Drive {
	t.Helper()
	d, e := drive.New(n)
	if e != api.OK {
		t.Fatalf("New(%d): %d", n, e)
	}
	return d
}

func made(t *testing.T, n int) (*pool.Pool, *drive.Drive) {
	t.Helper()
	d := disk(t, n)
	p, e := pool.Format(d)
	if p == nil || e != api.OK {
		t.Fatalf("Format of %d sectors: %v, %d", n, p, e)
	}
	return p, d
}

func mounted(t *testing.T, d *drive.Drive) *pool.Pool {
	t.Helper()
	p, e := pool.Mount(d)
	if p == nil || e != api.OK {
		t.Fatalf("Mount: %v, %d", p, e)
	}
	return p
}

// refused asks Mount for an error, for nothing beside it, and to leave the disk as it was.
func refused(t *testing.T, what string, d *drive.Drive, want api.Errno) {
	t.Helper()
	was := d.Clone()
	if p, e := pool.Mount(d); p != nil || e != want {
		t.Errorf("%s: Mount: %v, %d, not %d", what, p, e, want)
	}
	sameDisk(t, what, d, was)
}

func putsNode(t *testing.T, p *pool.Pool, n api.Node, want int) {
	t.Helper()
	if a, e := p.PutNode(n); a != want || e != api.OK {
		t.Fatalf("PutNode(%+v): %d, %d, not %d", n, a, e, want)
	}
}

func puts(t *testing.T, p *pool.Pool, kind int, b string, want int) {
	t.Helper()
	if a, e := p.PutBytes(kind, []byte(b)); a != want || e != api.OK {
		t.Fatalf("PutBytes(%d, %x): %d, %d, not %d", kind, b, a, e, want)
	}
}

// putsNone asks for an error, and for nothing beside it.
func putsNone(t *testing.T, p *pool.Pool, kind int, b string, want api.Errno) {
	t.Helper()
	if a, e := p.PutBytes(kind, []byte(b)); a != 0 || e != want {
		t.Errorf("PutBytes(%d) of %d bytes: %d, %d, not %d", kind, len(b), a, e, want)
	}
}

func putsNoNode(t *testing.T, p *pool.Pool, n api.Node, want api.Errno) {
	t.Helper()
	if a, e := p.PutNode(n); a != 0 || e != want {
		t.Errorf("PutNode(%+v): %d, %d, not %d", n, a, e, want)
	}
}

// is asks a call that answers an error alone for it.
func is(t *testing.T, what string, e, want api.Errno) {
	t.Helper()
	if e != want {
		t.Errorf("%s: %d, not %d", what, e, want)
	}
}

func commits(t *testing.T, p *pool.Pool) {
	t.Helper()
	if e := p.Commit(); e != api.OK {
		t.Fatalf("Commit: %d", e)
	}
}

func nodeIs(t *testing.T, p *pool.Pool, a int, want api.Node, we api.Errno) {
	t.Helper()
	if n, e := p.Node(a); !sameNode(n, want) || e != we {
		t.Errorf("Node(%d): %+v, %d, not %+v, %d", a, n, e, want, we)
	}
}

func bytesAre(t *testing.T, p *pool.Pool, a, kind int, want string, we api.Errno) {
	t.Helper()
	if b, e := p.Bytes(a, kind); string(b) != want || e != we || e != api.OK && b != nil {
		t.Errorf("Bytes(%d, %d): %x, %d, not %x, %d", a, kind, b, e, want, we)
	}
}

func unrefs(t *testing.T, p *pool.Pool, a, want int) {
	t.Helper()
	if n, e := p.Unref(a); n != want || e != api.OK {
		t.Errorf("Unref(%d): %d, %d, not %d", a, n, e, want)
	}
}

// counted holds what the counts tell against the model.
func counted(t *testing.T, p *pool.Pool, m *model) {
	t.Helper()
	if p.Super() != m.s {
		t.Errorf("Super: %+v, not %+v", p.Super(), m.s)
	}
	if p.Free() != len(m.frees()) {
		t.Errorf("%d are free, not %d", p.Free(), len(m.frees()))
	}
	for a := -2; a < m.s.Sectors+2; a++ {
		if fresh := m.now[a] != 0 && m.was[a] == 0; p.Count(a) != m.now[a] || p.Fresh(a) != fresh {
			t.Errorf("sector %d has %d, fresh %v, not %d, %v", a, p.Count(a), p.Fresh(a), m.now[a], fresh)
		}
	}
}

// agrees holds all that is told of a pool against the model.
func agrees(t *testing.T, p *pool.Pool, m *model) {
	t.Helper()
	counted(t, p, m)
	for a := -2; a < m.s.Sectors+2; a++ {
		n, e := m.node(a)
		nodeIs(t, p, a, n, e)
		for kind := 4; kind < 8; kind++ {
			b, e := m.bytes(a, kind)
			bytesAre(t, p, a, kind, b, e)
		}
	}
}

// sectors are those that a disk has after a crash that keeps the i-th write of each; a negative i: without a crash.
func sectors(t *testing.T, d *drive.Drive, i int) [][]byte {
	t.Helper()
	c := d.Clone()
	if i >= 0 {
		c.Crash(slices.Repeat([]int{i}, c.Size()))
	}
	var l [][]byte
	for s := range c.Size() {
		b, _ := c.Read(s)
		l = append(l, b)
	}
	return l
}

// sameDisk holds a disk against what it should be: what is cached and what is durable, and how many steps it took.
func sameDisk(t *testing.T, what string, d, want *drive.Drive) {
	t.Helper()
	if d.Size() != want.Size() || d.On() != want.On() || d.Cached() != want.Cached() || d.Steps() != want.Steps() {
		t.Fatalf("%s: on %v, %d cached, %d steps, not %v, %d, %d", what, d.On(), d.Cached(), d.Steps(), want.On(), want.Cached(), want.Steps())
	}
	for i := -1; i < 3; i++ {
		right := sectors(t, want, i)
		for s, b := range sectors(t, d, i) {
			if !bytes.Equal(b, right[s]) {
				t.Fatalf("%s: sector %d, crash %d: %x, not %x", what, s, i, b, right[s])
			}
		}
	}
}

// wrote lays what a disk should be on a clone of what it was.
func wrote(d *drive.Drive, ops []op, fuse int) *drive.Drive {
	c := d.Clone()
	c.Fuse(fuse)
	done(c, ops)
	return c
}

// worked is a pool that was worked on: two commits, and new blocks of each kind, some of them released again; and the model of it.
func worked(t *testing.T, n int) (*pool.Pool, *model, *drive.Drive) {
	t.Helper()
	p, d := made(t, n)
	m := modelOf(n)
	work(t, p, m, 0)
	commits(t, p)
	m.commit()
	work(t, p, m, 100)
	commits(t, p)
	m.commit()
	release(t, p, m, first(n))
	release(t, p, m, first(n)+3)
	work(t, p, m, 200)
	agrees(t, p, m)
	return p, m, d
}

// work puts six blocks, and releases one of them.
func work(t *testing.T, p *pool.Pool, m *model, off int) {
	t.Helper()
	for i, h := range []held{{n: leaf(1+off%6, off)}, {n: inner(3, 2+off%11, off)}, {kind: 5, b: value(off % 129)}, {kind: 6, b: value(off % 237)}, {kind: 5}, {n: leaf(6, off)}} {
		a, _ := m.put(h)
		if h.kind == 0 {
			putsNode(t, p, h.n, a)
		} else {
			puts(t, p, h.kind, h.b, a)
		}
		if i%2 == 0 {
			is(t, "Ref", p.Ref(a), api.OK)
			m.now[a]++
		}
	}
	l := slices.Sorted(maps.Keys(m.fresh))
	release(t, p, m, l[3])
	m.s.Vols[off/100] = api.Vol{Name: "v" + string(rune('0'+off/100)), Root: l[0], Next: 2 + off}
	m.s.Log = l[2]
	is(t, "SetVol", p.SetVol(off/100, m.s.Vols[off/100]), api.OK)
	is(t, "SetLog", p.SetLog(m.s.Log), api.OK)
}

// release takes all references of a block.
func release(t *testing.T, p *pool.Pool, m *model, a int) {
	t.Helper()
	for m.now[a] > 0 {
		m.now[a]--
		unrefs(t, p, a, m.now[a])
	}
	delete(m.fresh, a)
}

// The chapter's examples.

func TestTheExamples(t *testing.T) {
	p, d := made(t, 32)
	puts(t, p, api.BlockData, "ab", 4)
	bytesAre(t, p, 4, api.BlockData, "ab", api.OK)
	if p.Free() != 27 {
		t.Errorf("%d are free", p.Free())
	}
	commits(t, p)
	p = mounted(t, d)
	bytesAre(t, p, 4, api.BlockData, "ab", api.OK)
	if want := (api.Super{Gen: 2, Sectors: 32}); p.Super() != want {
		t.Errorf("%+v", p.Super())
	}
	unrefs(t, p, 4, 0)
	bytesAre(t, p, 4, api.BlockData, "", api.ErrArg)
	if p.Free() != 27 {
		t.Errorf("%d are free", p.Free())
	}
}

// P9.1

func TestFormatsOperations(t *testing.T) {
	for _, n := range sizes {
		d, ops := disk(t, n), formatOps(t, n)
		p, e := pool.Format(d)
		is(t, "Format", e, api.OK)
		sameDisk(t, "a formatted disk", d, wrote(disk(t, n), ops, -1))
		if d.Steps() != 6+area(n) {
			t.Errorf("%d steps of %d sectors", d.Steps(), n)
		}
		agrees(t, p, modelOf(n))
	}
}

// used is a disk of n sectors on which there is another file system, of two commits.
func used(t *testing.T, n int) *drive.Drive {
	t.Helper()
	p, d := made(t, n)
	m := modelOf(n)
	for off := range 2 {
		work(t, p, m, 100*off)
		commits(t, p)
		m.commit()
	}
	return d
}

func TestFormatWithoutPowerForEachStep(t *testing.T) {
	for _, n := range sizes {
		for _, was := range []*drive.Drive{disk(t, n), used(t, n)} {
			ops := formatOps(t, n)
			for fuse := range len(ops) {
				d := was.Clone()
				d.Fuse(fuse)
				if p, e := pool.Format(d); p != nil || e != api.ErrPower {
					t.Errorf("Format of %d sectors with %d steps: %v, %d", n, fuse, p, e)
				}
				sameDisk(t, "a disk that is formatted half", d, wrote(was, ops, fuse))
			}
			d := was.Clone()
			d.Fuse(len(ops))
			p, e := pool.Format(d)
			is(t, "Format with as many steps as it needs", e, api.OK)
			sameDisk(t, "a formatted disk", d, wrote(was, ops, len(ops)))
			agrees(t, p, modelOf(n))
		}
	}
}

// Of a disk that is formatted half there is what was there ahead of it, nothing, or the new file system.
func TestACrashWhileFormatting(t *testing.T) {
	was := used(t, 119)
	ops := formatOps(t, 119)
	for fuse := range len(ops) + 1 {
		for i := range 4 {
			d := wrote(was, ops, fuse)
			d.Crash([]int{i % 2, i / 2, i % 2, i / 2})
			p, e := pool.Mount(d)
			begun, ended := fuse < 2 || fuse == 2 && i != 3, fuse == len(ops) || fuse == len(ops)-1 && i%2 == 1
			if (e == api.OK) != (begun || ended) || e != api.OK && e != api.ErrSystem {
				t.Errorf("%d steps, crash %d: %d", fuse, i, e)
			}
			if ended && e == api.OK {
				agrees(t, p, modelOf(119))
			}
		}
	}
}

func TestFormatOfAUsedDisk(t *testing.T) {
	for _, n := range []int{32, 119, 2048} {
		d := used(t, n)
		p, e := pool.Format(d)
		is(t, "Format", e, api.OK)
		agrees(t, p, modelOf(n))
		agrees(t, mounted(t, d), modelOf(n))
	}
}

func TestFormatWithoutPower(t *testing.T) {
	d := used(t, 32)
	d.Fuse(0)
	d.Flush()
	was := d.Clone()
	if p, e := pool.Format(d); p != nil || e != api.ErrPower {
		t.Errorf("Format: %v, %d", p, e)
	}
	sameDisk(t, "a disk without power", d, was)
}

// A drive that New did not make has no sectors.
func TestADriveWithoutSectors(t *testing.T) {
	if p, e := pool.Format(new(drive.Drive)); p != nil || e != api.ErrPower {
		t.Errorf("Format: %v, %d", p, e)
	}
	if p, e := pool.Mount(new(drive.Drive)); p != nil || e != api.ErrSystem {
		t.Errorf("Mount: %v, %d", p, e)
	}
}

func TestMountWithoutPower(t *testing.T) {
	for _, d := range []*drive.Drive{disk(t, 32), used(t, 32)} {
		d.Fuse(0)
		d.Flush()
		refused(t, "without power", d, api.ErrPower)
	}
}

func TestMountTakesNoStep(t *testing.T) {
	for _, n := range sizes {
		d := used(t, n)
		d.Fuse(0)
		was := d.Clone()
		if p := mounted(t, d); p.Super().Gen != 3 {
			t.Errorf("%+v", p.Super())
		}
		sameDisk(t, "a mounted disk", d, was)
	}
}

func TestMountOfWhatIsNotFormatted(t *testing.T) {
	for n := 32; n <= 2048; n++ {
		if p, e := pool.Mount(disk(t, n)); p != nil || e != api.ErrSystem {
			t.Errorf("Mount of %d sectors: %v, %d", n, p, e)
		}
	}
}

func TestMountOfEachSize(t *testing.T) {
	for n := 32; n <= 2048; n++ {
		_, d := made(t, n)
		p := mounted(t, d)
		if want := (api.Super{Gen: 1, Sectors: n}); p.Super() != want || p.Free() != n-first(n) {
			t.Errorf("%+v, %d are free", p.Super(), p.Free())
		}
	}
}

// image is a disk on which a generation's counts and superblock stand, the latter in a slot.
func image(t *testing.T, n int, s api.Super, slot int, now map[int]int) *drive.Drive {
	t.Helper()
	d := disk(t, n)
	laid(t, d, s, slot, now)
	return d
}

func laid(t *testing.T, d *drive.Drive, s api.Super, slot int, now map[int]int) {
	t.Helper()
	ops := append(countsOps(t, s.Sectors, s.Gen, now), superOp(t, s, slot), op{})
	if e := done(d, ops); e != api.OK {
		t.Fatalf("laying down %+v: %d", s, e)
	}
}

func TestMountOfAnotherSize(t *testing.T) {
	for _, n := range []int{32, 33, 64, 118, 119, 2047, 2048} {
		for _, sectors := range []int{32, 33, 64, 118, 119, 2047, 2048} {
			s := api.Super{Gen: 7, Sectors: sectors}
			d := disk(t, n)
			done(d, []op{superOp(t, s, 1), {}})
			if n != sectors {
				refused(t, "another size, without counts", d, api.ErrSystem)
			}
			if area(n) == area(sectors) {
				laid(t, d, s, 1, nil)
			}
			if n != sectors {
				refused(t, "another size", d, api.ErrSystem)
			} else {
				mounted(t, d)
			}
		}
	}
}

// The newer one is taken, even if it is of another size and the older one is not.
func TestMountAsksTheNewerOneAlone(t *testing.T) {
	d := image(t, 32, api.Super{Gen: 4, Sectors: 32}, 0, nil)
	mounted(t, d)
	done(d, []op{superOp(t, api.Super{Gen: 5, Sectors: 33}, 1), {}})
	refused(t, "the newer one of another size", d, api.ErrSystem)
	done(d, []op{superOp(t, api.Super{Gen: 5, Sectors: 32}, 1), {}})
	refused(t, "the newer one without counts", d, api.ErrIO)
	done(d, []op{superOp(t, api.Super{Gen: 3, Sectors: 33}, 1), {}})
	mounted(t, d)
}

func TestMountOfEachPairOfGenerations(t *testing.T) {
	for _, pair := range [][2]int{{1, 2}, {2, 1}, {2, 3}, {4, 3}, {3, 2}, {0, 1}, {0, 2}, {5, 0}, {6, 0}, {api.MaxGen - 1, api.MaxGen}, {api.MaxGen, 2}, {7, 7}, {8, 8}} {
		d := disk(t, 119)
		var want api.Super
		for slot, gen := range pair {
			if gen == 0 {
				continue
			}
			s := api.Super{Gen: gen, Sectors: 119, Log: 10 + slot}
			laid(t, d, s, slot, map[int]int{6: 1 + gen%7})
			if gen > want.Gen {
				want = s
			}
		}
		p := mounted(t, d)
		if p.Super() != want || p.Count(6) != 1+want.Gen%7 || p.Fresh(6) || p.Free() != 112 {
			t.Errorf("%v: %+v, not %+v; %d", pair, p.Super(), want, p.Count(6))
		}
	}
}

// A cached write is what a disk's sector contains.
func TestMountOfWhatIsCached(t *testing.T) {
	d := disk(t, 64)
	done(d, append(countsOps(t, 64, 9, map[int]int{63: 2}), superOp(t, api.Super{Gen: 9, Sectors: 64}, 1)))
	if p := mounted(t, d); p.Count(63) != 2 || p.Super().Gen != 9 {
		t.Errorf("%+v, %d", p.Super(), p.Count(63))
	}
	d.Crash(nil)
	refused(t, "what was cached is gone", d, api.ErrSystem)
}

func TestMountFindsAllCounts(t *testing.T) {
	r := rand.New(rand.NewPCG(9, 1))
	for _, n := range sizes {
		for gen := 4; gen < 6; gen++ {
			now := map[int]int{first(n): 1, first(n) + 1: 65535, first(n) + 2: 256, n - 1: 0x0102}
			for range n / 3 {
				now[first(n)+r.IntN(n-first(n))] = r.IntN(65536)
			}
			s := api.Super{Gen: gen, Sectors: n, Log: n - 1}
			s.Vols[7] = api.Vol{Name: "0123456789", ReadOnly: true, Root: n - 1, Next: api.MaxNumber}
			m := &model{s, s, now, now, nil, nil}
			counted(t, mounted(t, image(t, n, s, gen%2, now)), m)
		}
	}
}

// states are the models of what is on a used disk: the older state, then the newer one.
func states(t *testing.T, n int) (*drive.Drive, *model, *model) {
	t.Helper()
	p, d := made(t, n)
	m := modelOf(n)
	work(t, p, m, 0)
	commits(t, p)
	m.commit()
	older := m.clone()
	work(t, p, m, 100)
	commits(t, p)
	m.commit()
	return d, older, m
}

func TestMountWithASpoiltSuperblock(t *testing.T) {
	d, older, newer := states(t, 119)
	agrees(t, mounted(t, d), newer)
	for at := range 256 {
		c := d.Clone()
		is(t, "Corrupt", c.Corrupt(1, at, 1<<(at%8)), api.OK)
		agrees(t, mounted(t, c), older)
		is(t, "Corrupt", c.Corrupt(0, 255-at, 1<<(at%8)), api.OK)
		refused(t, "both superblocks spoilt", c, api.ErrSystem)
		is(t, "Corrupt", c.Corrupt(1, at, 1<<(at%8)), api.OK)
		agrees(t, mounted(t, c), newer)
	}
}

func TestMountWithSpoiltCounts(t *testing.T) {
	for _, n := range []int{32, 119, 2048} {
		d, older, newer := states(t, n)
		for i := range area(n) {
			for at := 0; at < 256; at += 1 + 10*area(n) {
				c := d.Clone()
				is(t, "Corrupt", c.Corrupt(areaAt(n, 2)+i, at, 0xff), api.OK)
				counted(t, mounted(t, c), newer)
				is(t, "Corrupt", c.Corrupt(areaAt(n, 3)+i, at, 0x10), api.OK)
				refused(t, "spoilt counts", c, api.ErrIO)
				is(t, "Corrupt", c.Corrupt(1, at, 0xff), api.OK)
				refused(t, "spoilt counts of the older one too", c, api.ErrIO)
				is(t, "Corrupt", c.Corrupt(areaAt(n, 2)+i, at, 0xff), api.OK)
				counted(t, mounted(t, c), older)
			}
		}
	}
}

// behind tells a disk whose counts of generation 6, which are in area 0, are as they should be but for one of their blocks.
func behind(t *testing.T, i int, h api.Head, body []byte) *drive.Drive {
	t.Helper()
	d := image(t, 237, api.Super{Gen: 6, Sectors: 237}, 0, nil)
	done(d, []op{{2 + i, sealed(t, h, body)}, {}})
	return d
}

func TestMountOfCountsWithAnotherHeader(t *testing.T) {
	for i := range 3 {
		good := api.Head{Kind: 2, Addr: 2 + i, Gen: 6}
		mounted(t, behind(t, i, good, nil))
		for kind := 1; kind <= 6; kind++ {
			h := good
			h.Kind = kind
			if kind != 2 {
				refused(t, "another kind", behind(t, i, h, nil), api.ErrIO)
			}
		}
		for _, addr := range []int{0, 1, 2, 3, 4, 5, 6, 7, 8, 2047} {
			h := good
			h.Addr = addr
			if addr != 2+i {
				refused(t, "another address", behind(t, i, h, nil), api.ErrIO)
			}
		}
		for _, count := range []int{1, 2, 118, 236, 65535} {
			h := good
			h.Count = count
			refused(t, "another count", behind(t, i, h, nil), api.ErrIO)
		}
		for level := 1; level <= 8; level++ {
			h := good
			h.Level = level
			refused(t, "another level", behind(t, i, h, nil), api.ErrIO)
		}
		for _, gen := range []int{0, 1, 4, 5, 7, 8, 6 + 256, api.MaxGen} {
			h := good
			h.Gen = gen
			refused(t, "another generation", behind(t, i, h, nil), api.ErrIO)
		}
	}
}

func TestMountOfCountsThatLoadRejects(t *testing.T) {
	for a := range 3 * 118 {
		body := make([]byte, 236)
		body[a%118*2+1] = 1
		d := behind(t, a/118, api.Head{Kind: 2, Addr: 2 + a/118, Gen: 6}, body)
		if a < first(237) || a >= 237 {
			refused(t, "a count where there may be none", d, api.ErrIO)
		} else if p := mounted(t, d); p.Count(a) != 1 || p.Fresh(a) || p.Free() != 237-8-1 {
			t.Errorf("sector %d: %d, %d are free", a, p.Count(a), p.Free())
		}
	}
}

func TestMountHasNothingNew(t *testing.T) {
	p, m, d := worked(t, 64)
	q := mounted(t, d)
	m.back()
	agrees(t, q, m)
	commits(t, q)
	m.commit()
	agrees(t, mounted(t, d), m)
	if p.Super().Gen != 3 {
		t.Errorf("%+v", p.Super())
	}
}

// P9.2

func TestSuperAndItsChanges(t *testing.T) {
	for _, n := range []int{32, 2048} {
		p, d := made(t, n)
		m, was := modelOf(n), d.Clone()
		for i := range 8 {
			for _, v := range []api.Vol{{Name: "a" + string(rune('0'+i)), Next: 2}, {Name: "a" + string(rune('0'+i)), Next: 2, ReadOnly: true}, {Name: "0123456-" + string(rune('a'+i)), Root: n - 1, Next: api.MaxNumber}, {}, {Name: "b" + string(rune('0'+i)), Root: 1, Next: 9}} {
				is(t, "SetVol", p.SetVol(i, v), api.OK)
				m.s.Vols[i] = v
				counted(t, p, m)
			}
		}
		for _, a := range []int{1, n - 1, 0, 5} {
			is(t, "SetLog", p.SetLog(a), api.OK)
			m.s.Log = a
			counted(t, p, m)
		}
		sameDisk(t, "nothing is committed", d, was)
		commits(t, p)
		m.commit()
		agrees(t, p, m)
		agrees(t, mounted(t, d), m)
	}
}

func TestSetVolOfNoIndex(t *testing.T) {
	p, m, _ := worked(t, 64)
	for _, i := range append([]int{8, 9, 16}, nowhere...) {
		for _, v := range []api.Vol{{}, {Name: "x", Next: 2}, {Next: 1}} {
			is(t, "SetVol of no index", p.SetVol(i, v), api.ErrArg)
		}
	}
	agrees(t, p, m)
}

func TestSetVolOfWhatMayNotBe(t *testing.T) {
	p, m, _ := worked(t, 64)
	for i := range 8 {
		wrong := []api.Vol{
			{Next: 2}, {Root: 1}, {ReadOnly: true}, {Name: "", Root: 5, Next: 2},
			{Name: "x"}, {Name: "x", Next: 1}, {Name: "x", Next: -1}, {Name: "x", Next: 1 << 31},
			{Name: "x", Root: -1, Next: 2}, {Name: "x", Root: 64, Next: 2}, {Name: "x", Root: math.MaxInt, Next: 2},
			{Name: "A", Next: 2}, {Name: "a b", Next: 2}, {Name: "a/b", Next: 2}, {Name: "\x00", Next: 2}, {Name: "0123456789a", Next: 2},
		}
		for j := range 3 { // the names that others have
			if j != i {
				wrong = append(wrong, api.Vol{Name: "v" + string(rune('0'+j)), Next: 2})
			}
		}
		for _, v := range wrong {
			is(t, "SetVol of what may not be", p.SetVol(i, v), api.ErrArg)
			counted(t, p, m)
		}
	}
	agrees(t, p, m)
}

// A name may be another subvolume's as soon as the one that had it has another, or is gone.
func TestSetVolOfANameThatWasGivenUp(t *testing.T) {
	p, _ := made(t, 32)
	one := api.Vol{Name: "one", Next: 2}
	is(t, "SetVol", p.SetVol(0, one), api.OK)
	is(t, "SetVol of itself", p.SetVol(0, api.Vol{Name: "one", Root: 4, Next: 3}), api.OK)
	is(t, "SetVol of a name that there is", p.SetVol(7, one), api.ErrArg)
	is(t, "SetVol of none", p.SetVol(0, api.Vol{}), api.OK)
	is(t, "SetVol of a name that is free", p.SetVol(7, one), api.OK)
	is(t, "SetVol of another name", p.SetVol(7, api.Vol{Name: "two", Next: 2}), api.OK)
	is(t, "SetVol of the free one", p.SetVol(3, one), api.OK)
}

func TestSetLogOfWhatMayNotBe(t *testing.T) {
	for _, n := range []int{32, 2048} {
		p, m, _ := worked(t, n)
		for _, a := range append([]int{n, n + 1}, nowhere...) {
			is(t, "SetLog of what may not be", p.SetLog(a), api.ErrArg)
		}
		counted(t, p, m)
	}
}

// P9.3

func TestPutNode(t *testing.T) {
	p, d := made(t, 64)
	m, was := modelOf(64), d.Clone()
	for n := 1; n <= 6; n++ {
		a, _ := m.put(held{n: leaf(n, n)})
		putsNode(t, p, leaf(n, n), a)
		agrees(t, p, m)
	}
	for level := 1; level <= 7; level++ {
		for _, n := range []int{2, 3, 11, 12} {
			a, _ := m.put(held{n: inner(level, n, level)})
			putsNode(t, p, inner(level, n, level), a)
		}
		agrees(t, p, m)
	}
	sameDisk(t, "nothing is committed", d, was)
}

func TestPutNodeOfWhatMayNotBe(t *testing.T) {
	p, m, _ := worked(t, 64)
	for _, n := range wrong() {
		putsNoNode(t, p, n, api.ErrArg)
	}
	agrees(t, p, m)
	filled(t, p, m)
	for _, n := range wrong() {
		putsNoNode(t, p, n, api.ErrArg)
	}
	agrees(t, p, m)
}

// filled takes all the space that is left.
func filled(t *testing.T, p *pool.Pool, m *model) {
	t.Helper()
	for i, a := range m.frees() {
		if i%2 == 0 {
			m.put(held{n: leaf(3, a)})
			putsNode(t, p, leaf(3, a), a)
		} else {
			m.put(held{kind: 5, b: value(i % 129)})
			puts(t, p, 5, value(i%129), a)
		}
	}
}

func TestNoSpace(t *testing.T) {
	for _, n := range []int{32, 119, 2048} {
		p, m, d := worked(t, n)
		filled(t, p, m)
		for range 3 {
			putsNoNode(t, p, leaf(1, 0), api.ErrSpace)
			putsNoNode(t, p, inner(1, 2, 0), api.ErrSpace)
			putsNone(t, p, 5, "", api.ErrSpace)
			putsNone(t, p, 6, value(236), api.ErrSpace)
			putsNone(t, p, 5, value(129), api.ErrLong)
			putsNone(t, p, 4, value(129), api.ErrArg)
		}
		agrees(t, p, m)
		release(t, p, m, n-1) // new, and hence free at once
		m.put(held{kind: 6, b: "x"})
		puts(t, p, 6, "x", n-1)
		commits(t, p)
		m.commit()
		agrees(t, p, m)
		agrees(t, mounted(t, d), m)
		filled(t, p, m)
		release(t, p, m, n-2) // committed, and hence not
		agrees(t, p, m)
		putsNone(t, p, 5, "", api.ErrSpace)
	}
}

func TestPutBytesOfEachLength(t *testing.T) {
	for kind, most := range map[int]int{5: 128, 6: 236} {
		p, d := made(t, 512)
		m := modelOf(512)
		for n := range most + 1 {
			a, _ := m.put(held{kind: kind, b: value(n)})
			puts(t, p, kind, value(n), a)
		}
		agrees(t, p, m)
		for _, n := range []int{most + 1, most + 2, 256, 65536, 65536 + most} {
			putsNone(t, p, kind, value(n), api.ErrLong)
		}
		agrees(t, p, m)
		commits(t, p)
		m.commit()
		agrees(t, p, m)
		agrees(t, mounted(t, d), m)
	}
}

// What ends with noughts ends with as many as it had.
func TestPutBytesOfNoughts(t *testing.T) {
	p, d := made(t, 64)
	m := modelOf(64)
	for _, b := range []string{"", "\x00", "\x00\x00", "a\x00", "\x00a", strings.Repeat("\x00", 128)} {
		for kind := 5; kind <= 6; kind++ {
			a, _ := m.put(held{kind: kind, b: b})
			puts(t, p, kind, b, a)
		}
	}
	agrees(t, p, m)
	commits(t, p)
	m.commit()
	agrees(t, mounted(t, d), m)
}

func TestPutBytesOfAnotherKind(t *testing.T) {
	p, m, _ := worked(t, 64)
	for _, kind := range wrongKinds {
		for _, n := range []int{0, 1, 128, 129, 236, 237} {
			putsNone(t, p, kind, value(n), api.ErrArg)
		}
	}
	agrees(t, p, m)
}

func TestSetNode(t *testing.T) {
	p, m, d := worked(t, 64)
	was := d.Clone()
	for a := range 64 {
		if h, fresh := m.at(a); m.now[a] == 0 || h.kind != 0 || !fresh {
			continue
		}
		for i, n := range []api.Node{leaf(5, a), inner(7, 12, a), inner(1, 2, a), leaf(1, a)} {
			is(t, "SetNode", p.SetNode(a, n), api.OK)
			m.fresh[a] = held{n: n}
			if i == a%4 {
				is(t, "Ref", p.Ref(a), api.OK)
				m.now[a]++
			}
			agrees(t, p, m)
			for _, n := range wrong() {
				is(t, "SetNode of a node that may not be", p.SetNode(a, n), api.ErrArg)
			}
			agrees(t, p, m)
		}
	}
	sameDisk(t, "nothing is committed", d, was)
	commits(t, p)
	m.commit()
	agrees(t, mounted(t, d), m)
}

func TestSetNodeOfABlockThatIsNone(t *testing.T) {
	p, m, _ := worked(t, 64)
	set := 0
	for _, a := range append([]int{64, 65}, nowhere...) {
		is(t, "SetNode of no sector", p.SetNode(a, leaf(1, 0)), api.ErrArg)
	}
	for a := range 64 {
		if h, fresh := m.at(a); m.now[a] != 0 && fresh && h.kind == 0 {
			set++
			continue
		}
		for _, n := range append(wrong(), leaf(1, 0), inner(1, 2, 0)) {
			is(t, "SetNode of a block that is committed, of bytes, released, free or reserved", p.SetNode(a, n), api.ErrArg)
		}
	}
	agrees(t, p, m)
	if set != 3 {
		t.Errorf("%d nodes may be set", set)
	}
}

// A committed node's sector that has become a new one's is as any.
func TestSetNodeOfASectorThatWasCommitted(t *testing.T) {
	p, d := made(t, 32)
	putsNode(t, p, leaf(1, 0), 4)
	commits(t, p)
	unrefs(t, p, 4, 0)
	is(t, "SetNode of what was released", p.SetNode(4, leaf(2, 0)), api.ErrArg)
	commits(t, p)
	is(t, "SetNode of what is free", p.SetNode(4, leaf(2, 0)), api.ErrArg)
	puts(t, p, 5, "a", 4)
	is(t, "SetNode of bytes", p.SetNode(4, leaf(2, 0)), api.ErrArg)
	unrefs(t, p, 4, 0)
	putsNode(t, p, leaf(3, 0), 4)
	is(t, "SetNode of a new node", p.SetNode(4, leaf(2, 0)), api.OK)
	commits(t, p)
	nodeIs(t, mounted(t, d), 4, leaf(2, 0), api.OK)
}

// P9.4

func TestNodeAndBytesOfNoSector(t *testing.T) {
	p, _, d := worked(t, 64)
	for _, off := range []bool{false, true} {
		if off {
			d.Fuse(0)
			d.Flush()
		}
		for _, a := range append([]int{0, 1, 2, 3, 62, 63, 64, 65}, nowhere...) {
			nodeIs(t, p, a, api.Node{}, api.ErrArg)
			for _, kind := range append([]int{5, 6}, wrongKinds...) {
				bytesAre(t, p, a, kind, "", api.ErrArg)
			}
		}
	}
}

func TestBytesOfAnotherKind(t *testing.T) {
	p, m, _ := worked(t, 64)
	for a := range 64 {
		for _, kind := range wrongKinds {
			bytesAre(t, p, a, kind, "", api.ErrArg)
		}
	}
	agrees(t, p, m)
}

// Without power new blocks are there as ever, and of others whatever must be read from the disk isn't.
func TestNodeAndBytesWithoutPower(t *testing.T) {
	p, m, d := worked(t, 64)
	d.Fuse(0)
	d.Flush()
	counted(t, p, m)
	for a := range 64 {
		n, e := m.node(a)
		if m.now[a] != 0 && m.was[a] != 0 {
			n, e = api.Node{}, api.ErrPower
		}
		nodeIs(t, p, a, n, e)
		for kind := 4; kind < 8; kind++ {
			b, e := m.bytes(a, kind)
			if m.now[a] != 0 && m.was[a] != 0 && (kind == 5 || kind == 6) {
				b, e = "", api.ErrPower
			}
			bytesAre(t, p, a, kind, b, e)
		}
	}
	d.Crash(nil)
	agrees(t, p, m)
}

func TestNewBlocksAreNotOnTheDisk(t *testing.T) {
	p, m, d := worked(t, 64)
	for a := range m.fresh {
		d.Write(a, bytes.Repeat([]byte{0xee}, 256))
		d.Corrupt(a, 7, 7)
	}
	agrees(t, p, m)
	commits(t, p)
	m.commit()
	agrees(t, p, m)
	agrees(t, mounted(t, d), m)
}

func TestSpoiltBlocks(t *testing.T) {
	p, m, d := worked(t, 64)
	for a := range 64 {
		if m.now[a] == 0 || m.was[a] == 0 {
			continue
		}
		for at := range 256 {
			d.Corrupt(a, at, 1+at%255)
			nodeIs(t, p, a, api.Node{}, api.ErrIO)
			bytesAre(t, p, a, 5, "", api.ErrIO)
			bytesAre(t, p, a, 6, "", api.ErrIO)
			bytesAre(t, p, a, 3, "", api.ErrArg)
			d.Corrupt(a, at, 1+at%255)
		}
	}
	agrees(t, p, m)
}

// holding is a pool whose sector 9 is counted, and contains a block.
func holding(t *testing.T, b []byte) *pool.Pool {
	t.Helper()
	d := image(t, 32, api.Super{Gen: 3, Sectors: 32}, 1, map[int]int{9: 1})
	done(d, []op{{9, b}})
	return mounted(t, d)
}

func TestBytesOfWhatTheDiskContains(t *testing.T) {
	for kind, most := range map[int]int{5: 128, 6: 236} {
		for n := range 237 {
			for _, count := range []int{0, n - 1, n, n + 1, 127, 128, 129, 235, 236, 237, 238, 255, 256, 65535} {
				if count < 0 {
					continue
				}
				p := holding(t, sealed(t, api.Head{Kind: kind, Addr: 9, Count: count, Gen: n}, []byte(value(n))))
				if count > most || strings.Trim(value(n)[min(n, count):], "\x00") != "" {
					bytesAre(t, p, 9, kind, "", api.ErrIO)
				} else {
					bytesAre(t, p, 9, kind, (value(n) + string(make([]byte, 237)))[:count], api.OK)
				}
				bytesAre(t, p, 9, 11-kind, "", api.ErrIO)
				nodeIs(t, p, 9, api.Node{}, api.ErrIO)
			}
		}
	}
}

func TestBytesOfANoughtThatIsNone(t *testing.T) {
	for at := range 236 {
		body := make([]byte, 236)
		body[at] = 1
		for kind, most := range map[int]int{5: 128, 6: 236} {
			for _, count := range []int{0, at, at + 1, most} {
				p := holding(t, sealed(t, api.Head{Kind: kind, Addr: 9, Count: count, Gen: 3}, body))
				if count > most || at >= count {
					bytesAre(t, p, 9, kind, "", api.ErrIO)
				} else {
					bytesAre(t, p, 9, kind, string(body[:count]), api.OK)
				}
			}
		}
	}
}

func TestBytesOfAnotherHeader(t *testing.T) {
	for kind := 5; kind <= 6; kind++ {
		good := api.Head{Kind: kind, Addr: 9, Count: 2}
		for _, gen := range []int{0, 1, 3, 4, 5, api.MaxGen} { // any may be
			good.Gen = gen
			bytesAre(t, holding(t, sealed(t, good, []byte("ab"))), 9, kind, "ab", api.OK)
		}
		for level := 1; level <= 8; level++ {
			h := good
			h.Level = level
			bytesAre(t, holding(t, sealed(t, h, []byte("ab"))), 9, kind, "", api.ErrIO)
		}
		for _, addr := range []int{0, 4, 8, 10, 9 + 256, 2047} {
			h := good
			h.Addr = addr
			bytesAre(t, holding(t, sealed(t, h, []byte("ab"))), 9, kind, "", api.ErrIO)
		}
		for other := 1; other <= 6; other++ {
			h := good
			h.Kind = other
			if other != kind {
				bytesAre(t, holding(t, sealed(t, h, []byte("ab"))), 9, kind, "", api.ErrIO)
			}
		}
	}
	bytesAre(t, holding(t, make([]byte, 256)), 9, 5, "", api.ErrIO)
	nodeIs(t, holding(t, make([]byte, 256)), 9, api.Node{}, api.ErrIO)
}

func TestNodeOfWhatTheDiskContains(t *testing.T) {
	for _, n := range []api.Node{leaf(1, 0), leaf(6, 5), inner(1, 2, 0), inner(7, 12, 5)} {
		for _, gen := range []int{0, 1, 3, 4, api.MaxGen} { // any may be
			p := holding(t, held{n: n}.block(t, 9, gen))
			nodeIs(t, p, 9, n, api.OK)
			bytesAre(t, p, 9, 5, "", api.ErrIO)
			bytesAre(t, p, 9, 6, "", api.ErrIO)
		}
		for _, addr := range []int{0, 4, 8, 10, 2047} {
			nodeIs(t, holding(t, held{n: n}.block(t, addr, 3)), 9, api.Node{}, api.ErrIO)
		}
		h, body, _ := seal.Open(held{n: n}.block(t, 9, 3))
		h.Count++
		nodeIs(t, holding(t, sealed(t, h, body)), 9, api.Node{}, api.ErrIO)
	}
}

// P9.5

func TestCounts(t *testing.T) {
	p, m, _ := worked(t, 64)
	for _, a := range append([]int{64, 65}, nowhere...) {
		noSector(t, p, a)
	}
	for a := range 64 {
		if m.now[a] == 0 {
			noSector(t, p, a)
			continue
		}
		is(t, "Ref", p.Ref(a), api.OK)
		m.now[a]++
		agrees(t, p, m)
	}
	for a := range 64 {
		release(t, p, m, a)
		agrees(t, p, m)
	}
}

func noSector(t *testing.T, p *pool.Pool, a int) {
	t.Helper()
	is(t, "Ref of no sector", p.Ref(a), api.ErrArg)
	if n, e := p.Unref(a); n != 0 || e != api.ErrArg {
		t.Errorf("Unref(%d): %d, %d", a, n, e)
	}
	if p.Count(a) != 0 || p.Fresh(a) {
		t.Errorf("sector %d has %d, fresh %v", a, p.Count(a), p.Fresh(a))
	}
}

func TestRefUpToTheMost(t *testing.T) {
	p, d := made(t, 32)
	m := modelOf(32)
	m.put(held{kind: 5, b: "ab"})
	puts(t, p, 5, "ab", 4)
	for m.now[4] < 65535 {
		is(t, "Ref", p.Ref(4), api.OK)
		m.now[4]++
	}
	is(t, "Ref of the most", p.Ref(4), api.ErrLong)
	agrees(t, p, m)
	commits(t, p)
	m.commit()
	agrees(t, mounted(t, d), m)
	is(t, "Ref of the most", p.Ref(4), api.ErrLong)
	unrefs(t, p, 4, 65534)
	is(t, "Ref", p.Ref(4), api.OK)
}

// A sector is free at once if what is released in it is new, and behind the next commit if it is not.
func TestReleasedSectors(t *testing.T) {
	p, d := made(t, 32)
	puts(t, p, 5, "a", 4)
	puts(t, p, 5, "b", 5)
	unrefs(t, p, 4, 0)
	putsNode(t, p, leaf(1, 0), 4)
	nodeIs(t, p, 4, leaf(1, 0), api.OK)
	bytesAre(t, p, 4, 5, "", api.ErrArg)
	commits(t, p)
	unrefs(t, p, 4, 0)
	puts(t, p, 6, "c", 6)
	was := mounted(t, d)
	nodeIs(t, was, 4, leaf(1, 0), api.OK)
	commits(t, p)
	puts(t, p, 6, "d", 4)
	bytesAre(t, p, 4, 6, "d", api.OK)
}

// P9.6

// again lets a disk be what it was, under the pools that work on it.
func again(d, was *drive.Drive) { *d = *was.Clone() }

// cutShort lets a clone of a pool commit with so many steps, and holds the disk against the operations.
func cutShort(t *testing.T, p *pool.Pool, d *drive.Drive, ops []op, fuse int) {
	t.Helper()
	was := d.Clone()
	d.Fuse(fuse)
	is(t, "Commit with too few steps", p.Clone().Commit(), api.ErrPower)
	sameDisk(t, "a disk with half a commit", d, wrote(was, ops, fuse))
	again(d, was)
}

func TestCommitsOperations(t *testing.T) {
	for _, n := range []int{32, 119, 237, 2048} {
		p, m, d := worked(t, n)
		was, ops := d.Clone(), m.ops(t)
		for fuse := range len(ops) {
			cutShort(t, p, d, ops, fuse)
		}
		agrees(t, p, m)
		d.Fuse(len(ops))
		is(t, "Commit with as many steps as it needs", p.Commit(), api.OK)
		m.commit()
		sameDisk(t, "a disk with a commit", d, wrote(was, ops, len(ops)))
		agrees(t, p, m)
		agrees(t, mounted(t, d), m)
	}
}

func TestCommitOfNothing(t *testing.T) {
	for _, n := range sizes {
		p, d := made(t, n)
		m := modelOf(n)
		for range 4 {
			was := d.Clone()
			ops := m.ops(t)
			commits(t, p)
			m.commit()
			sameDisk(t, "a commit of nothing", d, wrote(was, ops, -1))
			counted(t, p, m)
			counted(t, mounted(t, d), m)
		}
	}
}

// What was new and is released again is not written, whether its sector has become another's or not.
func TestCommitOfWhatWasReleased(t *testing.T) {
	p, d := made(t, 32)
	m, was := modelOf(32), d.Clone()
	for i := range 6 {
		m.put(held{kind: 5, b: value(i)})
		puts(t, p, 5, value(i), 4+i)
	}
	for _, a := range []int{4, 6, 9} {
		release(t, p, m, a)
	}
	m.put(held{n: inner(1, 2, 3)})
	putsNode(t, p, inner(1, 2, 3), 4)
	ops := m.ops(t)
	if len(ops) != 4+4 {
		t.Fatalf("%d operations", len(ops))
	}
	commits(t, p)
	m.commit()
	sameDisk(t, "a commit", d, wrote(was, ops, -1))
	for a := range 32 {
		release(t, p, m, a)
	}
	was, ops = d.Clone(), m.ops(t)
	commits(t, p)
	m.commit()
	sameDisk(t, "a commit of releases alone", d, wrote(was, ops, -1))
	if len(ops) != 4 || p.Free() != 28 {
		t.Errorf("%d operations, %d are free", len(ops), p.Free())
	}
	agrees(t, mounted(t, d), m)
}

// All the sectors that there are, put in whatever order, are written in increasing order.
func TestCommitGoesByTheAddresses(t *testing.T) {
	p, d := made(t, 2048)
	m := modelOf(2048)
	for _, a := range m.frees() {
		m.put(held{kind: 5, b: value(a % 129)})
		puts(t, p, 5, value(a%129), a)
	}
	for a := 2047; a >= first(2048); a -= 3 {
		release(t, p, m, a)
		m.put(held{n: leaf(1, a)})
		putsNode(t, p, leaf(1, a), a)
	}
	ops := m.ops(t)
	for _, fuse := range []int{1, 2, 3, 500, 1001, 2000, len(ops) - 1} {
		cutShort(t, p, d, ops, fuse)
	}
	commits(t, p)
	m.commit()
	agrees(t, mounted(t, d), m)
}

func TestManyCommits(t *testing.T) {
	p, d := made(t, 119)
	m := modelOf(119)
	for i := range 12 {
		work(t, p, m, i%8*100)
		for a := range 119 {
			if a%5 == i%5 && m.was[a] != 0 {
				release(t, p, m, a)
			}
		}
		agrees(t, p, m)
		was, ops := d.Clone(), m.ops(t)
		commits(t, p)
		m.commit()
		sameDisk(t, "a commit", d, wrote(was, ops, -1))
		agrees(t, p, m)
		if i%3 == 2 {
			p = mounted(t, d)
			agrees(t, p, m)
		}
	}
}

func TestCommitWithoutPower(t *testing.T) {
	p, m, d := worked(t, 64)
	d.Fuse(0)
	d.Flush()
	was := d.Clone()
	is(t, "Commit without power", p.Commit(), api.ErrPower)
	is(t, "Commit without power", p.Clone().Commit(), api.ErrPower)
	sameDisk(t, "a disk without power", d, was)
	d.Crash(nil)
	m.back()
	agrees(t, mounted(t, d), m)
}

func TestTheLastGenerations(t *testing.T) {
	for gen := api.MaxGen - 3; gen < api.MaxGen; gen++ {
		s := api.Super{Gen: gen, Sectors: 32}
		d := image(t, 32, s, gen%2, nil)
		p, m := mounted(t, d), &model{s, s, map[int]int{}, map[int]int{}, map[int]held{}, map[int]held{}}
		work(t, p, m, 100)
		was, ops := d.Clone(), m.ops(t)
		commits(t, p)
		m.commit()
		sameDisk(t, "a commit", d, wrote(was, ops, -1))
		agrees(t, mounted(t, d), m)
	}
}

// With the last generation there is no Commit, but all else.
func TestBehindTheLastGeneration(t *testing.T) {
	s := api.Super{Gen: api.MaxGen, Sectors: 32}
	d := image(t, 32, s, 1, map[int]int{9: 2})
	done(d, []op{{9, held{n: leaf(2, 2)}.block(t, 9, 7)}, {}})
	was := d.Clone()
	p, m := mounted(t, d), &model{s, s, map[int]int{9: 2}, map[int]int{9: 2}, map[int]held{}, map[int]held{9: {n: leaf(2, 2)}}}
	work(t, p, m, 0)
	agrees(t, p, m)
	for a := range m.fresh {
		if m.fresh[a].kind == 0 {
			is(t, "SetNode", p.SetNode(a, leaf(4, 4)), api.OK)
			m.fresh[a] = held{n: leaf(4, 4)}
		}
	}
	release(t, p, m, 9)
	agrees(t, p, m)
	agrees(t, p.Clone(), m)
	p.Commit()
	sameDisk(t, "a disk of the last generation", d, was)
}

func TestAPoolThatIsNone(t *testing.T) {
	p := new(pool.Pool)
	putsNoNode(t, p, leaf(1, 0), api.ErrSpace)
	putsNone(t, p, 5, "", api.ErrSpace)
	is(t, "SetVol", p.SetVol(0, api.Vol{}), api.ErrArg)
	is(t, "SetLog", p.SetLog(0), api.ErrArg)
	is(t, "SetNode", p.SetNode(4, leaf(1, 0)), api.ErrArg)
	nodeIs(t, p, 4, api.Node{}, api.ErrArg)
	bytesAre(t, p, 4, 5, "", api.ErrArg)
	noSector(t, p, 4)
	if p.Commit() == api.OK || p.Clone().Free() != 0 || p.Super() != (api.Super{}) {
		t.Errorf("there is something in it")
	}
}

func TestACloneGoesItsOwnWay(t *testing.T) {
	for _, swap := range []bool{false, true} {
		p, m, d := worked(t, 64)
		q, k, was := p.Clone(), m.clone(), d.Clone()
		if swap {
			p, q = q, p
		}
		agrees(t, q, k)
		work(t, p, m, 300)
		agrees(t, q, k)
		for a := range 64 {
			if h, fresh := m.at(a); m.now[a] != 0 && fresh && h.kind == 0 {
				is(t, "SetNode", p.SetNode(a, leaf(2, 77)), api.OK)
				m.fresh[a] = held{n: leaf(2, 77)}
			}
			if m.now[a] != 0 && a%3 == 0 {
				is(t, "Ref", p.Ref(a), api.OK)
				m.now[a]++
			}
			if a%5 == 0 {
				release(t, p, m, a)
			}
		}
		agrees(t, p, m)
		agrees(t, q, k)
		filled(t, q, k)
		agrees(t, p, m)
		agrees(t, q, k)
		sameDisk(t, "nothing is committed", d, was)
	}
}

// The disk is both pools': what one of them commits is there, and the other's new blocks are still its own.
func TestACloneSharesTheDisk(t *testing.T) {
	for _, swap := range []bool{false, true} {
		p, m, d := worked(t, 64)
		q, k := p.Clone(), m.clone()
		if swap {
			p, q = q, p
		}
		work(t, q, k, 400)
		commits(t, p)
		m.commit()
		agrees(t, p, m)
		agrees(t, mounted(t, d), m)
		agrees(t, q, k)
		ops, was := k.ops(t), d.Clone()
		commits(t, q)
		k.commit()
		sameDisk(t, "the other's commit", d, wrote(was, ops, -1))
		agrees(t, q, k)
		agrees(t, mounted(t, d), k)
	}
}

func TestACloneOfAClone(t *testing.T) {
	p, m, _ := worked(t, 64)
	q := p.Clone()
	r := q.Clone()
	for a := range 64 {
		for p.Count(a) > 0 {
			p.Unref(a)
		}
	}
	work(t, q, m.clone(), 500)
	agrees(t, r, m)
}

// P9.7

// kept goes through what a disk may keep: all of it if it is little, else some of it.
func kept(d *drive.Drive, r *rand.Rand) [][]int {
	n := d.Cached()
	var l [][]int
	if n <= 7 {
		for i := range 1 << n {
			keep := make([]int, n)
			for j := range keep {
				keep[j] = i >> j & 1
			}
			l = append(l, keep)
		}
		return l
	}
	for range 40 {
		keep := make([]int, n)
		for j := range keep {
			keep[j] = r.IntN(2)
		}
		l = append(l, keep)
	}
	return append(l, nil, slices.Repeat([]int{1}, n))
}

// survives cuts a commit at each of its steps, and asks Mount for what was committed or for what was to be.
func survives(t *testing.T, p *pool.Pool, m *model, d *drive.Drive, r *rand.Rand) {
	t.Helper()
	before, after := m.clone(), m.clone()
	before.back()
	after.commit()
	was, steps := d.Clone(), len(m.ops(t))
	for fuse := range steps + 1 {
		again(d, was)
		d.Fuse(fuse)
		if e := p.Clone().Commit(); (e == api.OK) != (fuse == steps) || e != api.OK && e != api.ErrPower {
			t.Errorf("Commit with %d of %d steps: %d", fuse, steps, e)
		}
		for _, keep := range kept(d, r) {
			c := d.Clone()
			c.Crash(keep)
			q, left := mounted(t, c), after
			if fuse < steps-1 || fuse == steps-1 && keep[0] == 0 {
				left = before
			}
			agrees(t, q, left)
			goesOn(t, c, q, left.clone())
		}
	}
	again(d, was)
}

// goesOn works with what a crash left.
func goesOn(t *testing.T, d *drive.Drive, p *pool.Pool, m *model) {
	t.Helper()
	if len(m.frees()) < 6 {
		return
	}
	work(t, p, m, 600)
	commits(t, p)
	m.commit()
	agrees(t, mounted(t, d), m)
}

func TestACrashInACommit(t *testing.T) {
	r := rand.New(rand.NewPCG(9, 7))
	for _, n := range []int{32, 119} {
		p, m, d := worked(t, n)
		survives(t, p, m, d, r)
		p, d = made(t, n)
		m = modelOf(n)
		survives(t, p, m, d, r) // the first commit, of nothing
		work(t, p, m, 0)
		survives(t, p, m, d, r)
		commits(t, p)
		m.commit()
		for a := range n {
			release(t, p, m, a)
		}
		survives(t, p, m, d, r)
	}
}

// A commit that was cut short leaves what the next one, of the same generation, writes over, whatever that contains.
func TestACrashInACommitAfterACrash(t *testing.T) {
	r := rand.New(rand.NewPCG(9, 8))
	p, m, d := worked(t, 32)
	for range 12 {
		d.Fuse(r.IntN(len(m.ops(t)) - 1))
		is(t, "Commit", p.Commit(), api.ErrPower)
		d.Crash([]int{r.IntN(2), r.IntN(2), r.IntN(2), r.IntN(2), r.IntN(2)})
		m.back()
		p = mounted(t, d)
		agrees(t, p, m)
		work(t, p, m, 100*r.IntN(8))
		survives(t, p, m, d, r)
	}
}

// dice makes calls at random.
type dice struct{ *rand.Rand }

func (r dice) held() held {
	switch r.IntN(4) {
	case 0:
		return held{n: leaf(1+r.IntN(6), r.IntN(1000))}
	case 1:
		return held{n: inner(1+r.IntN(7), 2+r.IntN(11), r.IntN(1000))}
	case 2:
		return held{kind: 5, b: value(r.IntN(129))}
	}
	return held{kind: 6, b: value(r.IntN(237))}
}

func (r dice) act(t *testing.T, p *pool.Pool, m *model) {
	t.Helper()
	a := r.IntN(m.s.Sectors+2) - 1
	switch r.IntN(12) {
	case 0, 1, 2, 3:
		r.put(t, p, m)
	case 4:
		r.set(t, p, m, a)
	case 5:
		want := api.ErrArg
		if m.now[a] != 0 {
			want = api.OK
			m.now[a]++
		}
		is(t, "Ref", p.Ref(a), want)
	case 6, 7, 8:
		if m.now[a] == 0 {
			noSector(t, p, a)
			return
		}
		m.now[a]--
		unrefs(t, p, a, m.now[a])
		if m.now[a] == 0 {
			delete(m.fresh, a)
		}
	case 9:
		r.vol(t, p, m)
	case 10:
		want := api.ErrArg
		if a >= 0 && a < m.s.Sectors {
			want, m.s.Log = api.OK, a
		}
		is(t, "SetLog", p.SetLog(a), want)
	}
}

func (r dice) put(t *testing.T, p *pool.Pool, m *model) {
	t.Helper()
	h := r.held()
	a, we := m.put(h)
	var got int
	var e api.Errno
	if h.kind == 0 {
		got, e = p.PutNode(h.n)
	} else {
		got, e = p.PutBytes(h.kind, []byte(h.b))
	}
	if got != a || e != we {
		t.Errorf("putting %+v: %d, %d, not %d, %d", h, got, e, a, we)
	}
}

func (r dice) set(t *testing.T, p *pool.Pool, m *model, a int) {
	t.Helper()
	h, fresh := m.at(a)
	n, want := leaf(1+r.IntN(6), r.IntN(1000)), api.ErrArg
	if m.now[a] != 0 && fresh && h.kind == 0 {
		want, m.fresh[a] = api.OK, held{n: n}
	}
	is(t, "SetNode", p.SetNode(a, n), want)
}

func (r dice) vol(t *testing.T, p *pool.Pool, m *model) {
	t.Helper()
	i, v, want := r.IntN(10)-1, api.Vol{Name: "v" + string(rune('0'+r.IntN(10))), Root: r.IntN(40), Next: 2 + r.IntN(9)}, api.OK
	if i < 0 || i > 7 || v.Root >= m.s.Sectors {
		want = api.ErrArg
	}
	for j, w := range m.s.Vols {
		if j != i && w.Name == v.Name {
			want = api.ErrArg
		}
	}
	if want == api.OK {
		m.s.Vols[i] = v
	}
	is(t, "SetVol", p.SetVol(i, v), want)
}

func TestManyCallsInManyOrders(t *testing.T) {
	for seed := range uint64(60) {
		r := dice{rand.New(rand.NewPCG(9, seed))}
		n := 32 + r.IntN(8)
		p, d := made(t, n)
		m := modelOf(n)
		for range 200 {
			r.act(t, p, m)
			agrees(t, p, m)
			switch r.IntN(30) {
			case 0:
				was, ops := d.Clone(), m.ops(t)
				commits(t, p)
				m.commit()
				sameDisk(t, "a commit", d, wrote(was, ops, -1))
			case 1:
				m.back()
				p = mounted(t, d)
			case 2:
				q, k := p.Clone(), m.clone()
				for range 10 {
					r.act(t, q, k)
				}
				agrees(t, p, m)
				agrees(t, q, k)
				p, m = q, k
			case 3:
				before, ops := m.clone(), len(m.ops(t))
				d.Fuse(r.IntN(ops))
				is(t, "Commit", p.Commit(), api.ErrPower)
				d.Crash([]int{r.IntN(2), r.IntN(2), r.IntN(2), r.IntN(2), r.IntN(2), r.IntN(2), r.IntN(2), r.IntN(2)})
				p = mounted(t, d)
				m.commit()
				if p.Super().Gen == before.top.Gen {
					m = before
					m.back()
				}
			}
			if t.Failed() {
				t.Fatalf("seed %d", seed)
			}
		}
	}
}

// R6, R7

func TestTheSameAgain(t *testing.T) {
	p, m, d := worked(t, 64)
	q, _, e := worked(t, 64)
	sameDisk(t, "the same calls", d, e)
	agrees(t, q, m)
	for range 3 {
		agrees(t, p, m)
	}
	commits(t, p)
	commits(t, q)
	sameDisk(t, "the same commit", d, e)
}

// handed is a node whose lists have spare capacity, which is as little a call's own as they are.
func handed(n api.Node) api.Node {
	items := append(slices.Clone(n.Items), api.Item{Key: api.Key{Obj: 9}, Value: []byte("mark")})
	n.Items = items[:len(n.Items)]
	for i, x := range n.Items {
		n.Items[i].Value = lent.Bytes(string(x.Value))
	}
	kids := append(slices.Clone(n.Kids), api.Kid{Addr: 99})
	n.Kids = kids[:len(n.Kids)]
	return n
}

// whole is a node with what is behind its lists, and behind its values.
func whole(n api.Node) api.Node {
	w := api.Node{Level: n.Level, Items: slices.Clone(n.Items[:len(n.Items)+1]), Kids: slices.Clone(n.Kids[:len(n.Kids)+1])}
	for i, x := range w.Items {
		w.Items[i].Value = slices.Clone(x.Value[:cap(x.Value)])
	}
	return w
}

// scribbled writes over all that a node can reach.
func scribbled(n api.Node) {
	for i := range n.Items {
		lent.Scribble(n.Items[i].Value)
	}
	clear(n.Items[:cap(n.Items)])
	clear(n.Kids[:cap(n.Kids)])
}

func TestNodesThatAreHandedIn(t *testing.T) {
	p, _ := made(t, 64)
	for i, want := range []api.Node{leaf(6, 0), inner(2, 12, 0)} {
		n := handed(want)
		was := whole(n)
		putsNode(t, p, n, 4+i)
		is(t, "SetNode", p.SetNode(4+i, n), api.OK)
		p.SetNode(3, n)
		if !reflect.DeepEqual(whole(n), was) {
			t.Errorf("what was handed in became %+v", whole(n))
		}
		scribbled(n)
		nodeIs(t, p, 4+i, want, api.OK)
		n = handed(want)
		is(t, "SetNode", p.SetNode(4+i, n), api.OK)
		scribbled(n)
		nodeIs(t, p, 4+i, want, api.OK)
	}
	for _, want := range wrong() {
		n := handed(want)
		was := whole(n)
		putsNoNode(t, p, n, api.ErrArg)
		is(t, "SetNode", p.SetNode(4, n), api.ErrArg)
		if !reflect.DeepEqual(whole(n), was) {
			t.Errorf("what was handed in became %+v", whole(n))
		}
	}
}

func TestBytesThatAreHandedIn(t *testing.T) {
	p, _ := made(t, 64)
	for i, want := range []string{"", "ab", value(128), value(129)} {
		b := lent.Bytes(want)
		for kind := 4; kind < 7; kind++ {
			p.PutBytes(kind, b)
			if !lent.Untouched(b, want) {
				t.Errorf("%d: what was handed in became %x", i, b[:cap(b)])
			}
		}
		a, _ := p.PutBytes(6, b)
		lent.Scribble(b)
		bytesAre(t, p, a, 6, want, api.OK)
	}
}

func TestWhatIsHandedOut(t *testing.T) {
	p, m, d := worked(t, 64)
	q := p.Clone()
	was := d.Clone()
	for a := range 64 {
		for _, x := range []*pool.Pool{p, q} {
			n, _ := x.Node(a)
			other, _ := x.Node(a)
			scribbled(n)
			want, e := m.node(a)
			if e == api.OK && !sameNode(other, want) {
				t.Errorf("a change of an answer shows in another: %+v", other)
			}
			for kind := 5; kind < 7; kind++ {
				b, _ := x.Bytes(a, kind)
				other, _ := x.Bytes(a, kind)
				lent.Scribble(b)
				if want, _ := m.bytes(a, kind); string(other) != want {
					t.Errorf("a change of an answer shows in another: %x", other)
				}
			}
		}
	}
	agrees(t, p, m)
	agrees(t, q, m)
	sameDisk(t, "what is handed out", d, was)
	s := p.Super()
	s.Vols[0].Name, s.Gen = "other", 99
	agrees(t, p, m)
}

func TestTwoPoolsHaveNothingInCommon(t *testing.T) {
	p, m, _ := worked(t, 64)
	q, k, _ := worked(t, 64)
	for a := range 64 {
		release(t, q, k, a)
	}
	commits(t, q)
	k.commit()
	agrees(t, p, m)
	agrees(t, q, k)
}
