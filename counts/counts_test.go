package counts_test

import (
	"bytes"
	"encoding/binary"
	"maps"
	"math"
	"math/rand/v2"
	"slices"
	"testing"

	"cambium/api"
	"cambium/counts"
	"cambium/lent"
)

// sizes are numbers of sectors: the edges, those that fill a body or have one sector more, and the last body of one with noughts behind.
var sizes = []int{32, 33, 117, 118, 119, 236, 237, 500, 2006, 2007, 2047, 2048}

// nowhere are sectors and bodies that no disk has.
var nowhere = []int{math.MinInt, math.MinInt + 1, -65536, -118, -2, -1, 2048, 2049, 65536, 1 << 40, math.MaxInt / 118, math.MaxInt - 1, math.MaxInt}

// area is how many bodies the counts of n sectors fill, first the first sector behind both areas, as the chapters tell it.
func area(n int) int {
	bodies := 0
	for bodies*118 < n {
		bodies++
	}
	return bodies
}

func first(n int) int { return 2 + 2*area(n) }

// model has the counts of n sectors as the chapter tells them; sectors that aren't in a map have the count 0.
type model struct {
	n        int
	now, was map[int]int
}

func modelOf(n int) *model { return &model{n, map[int]int{}, map[int]int{}} }

func (m *model) isFree(a int) bool {
	return a >= first(m.n) && a < m.n && m.now[a] == 0 && m.was[a] == 0
}

func (m *model) frees() []int {
	var l []int
	for a := range m.n {
		if m.isFree(a) {
			l = append(l, a)
		}
	}
	return l
}

func (m *model) alloc() (int, api.Errno) {
	l := m.frees()
	if len(l) == 0 {
		return 0, api.ErrSpace
	}
	m.now[l[0]] = 1
	return l[0], api.OK
}

func (m *model) ref(a int) api.Errno {
	if m.now[a] == 0 {
		return api.ErrArg
	}
	if m.now[a] == 65535 {
		return api.ErrLong
	}
	m.now[a]++
	return api.OK
}

func (m *model) unref(a int) (int, api.Errno) {
	if m.now[a] == 0 {
		return 0, api.ErrArg
	}
	m.now[a]--
	return m.now[a], api.OK
}

func (m *model) commit() { m.was = maps.Clone(m.now) }

func (m *model) clone() *model { return &model{m.n, maps.Clone(m.now), maps.Clone(m.was)} }

// laid are the bodies of counts, whether these may be or not.
func laid(n int, now map[int]int) [][]byte {
	l := make([][]byte, area(n))
	for i := range l {
		l[i] = make([]byte, 236)
	}
	for a, x := range now {
		binary.BigEndian.PutUint16(l[a/118][a%118*2:], uint16(x))
	}
	return l
}

func made(t *testing.T, n int) *counts.Counts {
	t.Helper()
	c, e := counts.New(n)
	if c == nil || e != api.OK {
		t.Fatalf("New(%d): %v, %d", n, c, e)
	}
	return c
}

func loaded(t *testing.T, n int, bodies [][]byte) *counts.Counts {
	t.Helper()
	c, e := counts.Load(n, bodies)
	if c == nil || e != api.OK {
		t.Fatalf("Load(%d) of %d bodies: %v, %d", n, len(bodies), c, e)
	}
	return c
}

// refused asks Load for an error, and for nothing beside it.
func refused(t *testing.T, what string, n int, bodies [][]byte, want api.Errno) {
	t.Helper()
	if c, e := counts.Load(n, bodies); c != nil || e != want {
		t.Errorf("%s: Load(%d) of %d bodies: %v, %d, not %d", what, n, len(bodies), c, e, want)
	}
}

func allocs(t *testing.T, c *counts.Counts, want int) {
	t.Helper()
	if a, e := c.Alloc(); a != want || e != api.OK {
		t.Fatalf("Alloc: %d, %d, not %d", a, e, want)
	}
}

// noSpace asks Alloc for ErrSpace, and for nothing beside it.
func noSpace(t *testing.T, c *counts.Counts) {
	t.Helper()
	if a, e := c.Alloc(); a != 0 || e != api.ErrSpace {
		t.Errorf("Alloc: %d, %d", a, e)
	}
}

func refs(t *testing.T, c *counts.Counts, a int, want api.Errno) {
	t.Helper()
	if e := c.Ref(a); e != want {
		t.Errorf("Ref(%d): %d, not %d", a, e, want)
	}
}

func unrefs(t *testing.T, c *counts.Counts, a, want int) {
	t.Helper()
	if n, e := c.Unref(a); n != want || e != api.OK {
		t.Errorf("Unref(%d): %d, %d, not %d", a, n, e, want)
	}
}

// refuses asks Ref and Unref for ErrArg, and for nothing beside it.
func refuses(t *testing.T, c *counts.Counts, a int) {
	t.Helper()
	refs(t, c, a, api.ErrArg)
	if n, e := c.Unref(a); n != 0 || e != api.ErrArg {
		t.Errorf("Unref(%d): %d, %d", a, n, e)
	}
}

// is holds a sector against what it should be.
func is(t *testing.T, c *counts.Counts, a, count int, fresh bool) {
	t.Helper()
	if c.Get(a) != count || c.Fresh(a) != fresh {
		t.Errorf("sector %d has %d, fresh %v, not %d, %v", a, c.Get(a), c.Fresh(a), count, fresh)
	}
}

func frees(t *testing.T, c *counts.Counts, want int) {
	t.Helper()
	if n := c.Free(); n != want {
		t.Errorf("%d are free, not %d", n, want)
	}
}

// agrees holds all that is told of counts against the model, and lets a clone take all that is free.
func agrees(t *testing.T, c *counts.Counts, m *model) {
	t.Helper()
	frees(t, c, len(m.frees()))
	for a := -2; a < area(m.n)*118+2; a++ {
		is(t, c, a, m.now[a], m.now[a] != 0 && m.was[a] == 0)
	}
	for i, want := range laid(m.n, m.now) {
		if b := c.Body(i); !bytes.Equal(b, want) {
			t.Errorf("Body(%d) of %d sectors: %x, not %x", i, m.n, b, want)
		}
	}
	d := c.Clone()
	for _, a := range m.frees() {
		allocs(t, d, a)
	}
	noSpace(t, d)
}

// worked are counts of n sectors that were worked on, with counts over 255 and over 32767, and the model of them.
func worked(t *testing.T, n int) (*counts.Counts, *model) {
	t.Helper()
	c, m := made(t, n), modelOf(n)
	for a := first(n); a < n; a++ {
		allocs(t, c, a)
		m.now[a] = 1
	}
	more := func(a, x int) {
		t.Helper()
		for range x {
			if e := c.Ref(a); e != api.OK {
				t.Fatalf("Ref(%d): %d", a, e)
			}
		}
		m.now[a] += x
	}
	more(first(n), 255)
	more(first(n)+1, 65534)
	more(n-1, 0x0102-1)
	more(n-2, 0x8000)
	c.Commit()
	m.commit()
	for a := first(n) + 2; a < n-2; a += 3 {
		unrefs(t, c, a, 0)
		m.now[a] = 0
	}
	return c, m
}

// P8.1

func TestNewOfHowMany(t *testing.T) {
	for _, n := range append([]int{0, 1, 31, 2049, 4096}, nowhere...) {
		if n == 2048 {
			continue
		}
		if c, e := counts.New(n); c != nil || e != api.ErrArg {
			t.Errorf("New(%d): %v, %d", n, c, e)
		}
	}
	for n := 32; n <= 2048; n++ {
		frees(t, made(t, n), n-first(n))
	}
}

func TestNewHasNone(t *testing.T) {
	for _, n := range sizes {
		c := made(t, n)
		agrees(t, c, modelOf(n))
		for a := range n {
			refuses(t, c, a)
		}
		agrees(t, c, modelOf(n))
	}
}

func TestAllocOfAll(t *testing.T) {
	for n := 32; n <= 2048; n++ {
		c := made(t, n)
		for a := first(n); a < n; a++ {
			allocs(t, c, a)
		}
		noSpace(t, c)
		noSpace(t, c)
		frees(t, c, 0)
		is(t, c, first(n)-1, 0, false)
		is(t, c, first(n), 1, true)
		is(t, c, n-1, 1, true)
		is(t, c, n, 0, false)
	}
}

func TestAllocSetsOneCountTo1(t *testing.T) {
	for _, n := range sizes {
		c, m := made(t, n), modelOf(n)
		for range 3 {
			a, _ := m.alloc()
			allocs(t, c, a)
			agrees(t, c, m)
		}
	}
}

func TestAllocTakesTheFirst(t *testing.T) {
	c := made(t, 32)
	for a := 4; a < 20; a++ {
		allocs(t, c, a)
	}
	for _, a := range []int{17, 4, 9} {
		unrefs(t, c, a, 0)
	}
	for _, a := range []int{4, 9, 17, 20} {
		allocs(t, c, a)
	}
}

func TestNoSpaceChangesNothing(t *testing.T) {
	for _, n := range sizes {
		c, m := worked(t, n)
		for range 3 {
			noSpace(t, c)
		}
		agrees(t, c, m)
	}
}

// P8.2

func TestTheExamples(t *testing.T) {
	c := made(t, 32)
	allocs(t, c, 4)
	allocs(t, c, 5)
	refs(t, c, 4, api.OK)
	unrefs(t, c, 5, 0)
	frees(t, c, 27)
	c.Commit()
	unrefs(t, c, 4, 1)
	unrefs(t, c, 4, 0)
	allocs(t, c, 5)
	c.Commit()
	allocs(t, c, 4)
}

func TestRefAndUnrefOfNoSector(t *testing.T) {
	for _, n := range sizes {
		c, m := worked(t, n)
		for _, a := range append([]int{n, n + 1, area(n)*118 - 1, area(n) * 118}, nowhere...) {
			if a >= 0 && a < n {
				continue
			}
			refuses(t, c, a)
		}
		agrees(t, c, m)
	}
}

func TestRefAndUnrefOfReservedSectors(t *testing.T) {
	for _, n := range sizes {
		c, m := worked(t, n)
		for a := range first(n) {
			refuses(t, c, a)
		}
		agrees(t, c, m)
	}
}

func TestRefAndUnrefOfTheCount0(t *testing.T) {
	for _, n := range sizes {
		c, m := made(t, n), modelOf(n)
		a, _ := m.alloc()
		allocs(t, c, a)
		refuses(t, c, a+1) // never allocated
		refuses(t, c, n-1)
		agrees(t, c, m)
		unrefs(t, c, a, 0)
		refuses(t, c, a) // released
		allocs(t, c, a)
		c.Commit()
		m.commit()
		unrefs(t, c, a, 0)
		m.now[a] = 0
		refuses(t, c, a) // released, and still committed
		agrees(t, c, m)
	}
}

func TestRefAndUnrefOfTheLastSector(t *testing.T) {
	for _, n := range sizes {
		c, m := worked(t, n)
		refs(t, c, n-1, api.OK)
		m.now[n-1]++
		agrees(t, c, m)
		unrefs(t, c, n-1, 0x0102)
		unrefs(t, c, n-1, 0x0101)
		m.now[n-1] = 0x0101
		agrees(t, c, m)
	}
}

func TestRefUpToTheMost(t *testing.T) {
	c := made(t, 32)
	allocs(t, c, 4)
	allocs(t, c, 5)
	for x := 2; x <= 65535; x++ {
		refs(t, c, 4, api.OK)
		if c.Get(4) != x {
			t.Fatalf("%d, not %d", c.Get(4), x)
		}
	}
	for range 3 {
		refs(t, c, 4, api.ErrLong)
		is(t, c, 4, 65535, true)
	}
	is(t, c, 5, 1, true)
	frees(t, c, 26)
	c.Commit()
	refs(t, c, 4, api.ErrLong)
	unrefs(t, c, 4, 65534)
	refs(t, c, 4, api.OK)
	refs(t, c, 4, api.ErrLong)
	is(t, c, 4, 65535, false)
}

func TestUnrefDownTo0(t *testing.T) {
	c := made(t, 32)
	allocs(t, c, 4)
	for range 65534 {
		refs(t, c, 4, api.OK)
	}
	for x := 65534; x >= 0; x-- {
		unrefs(t, c, 4, x)
	}
	for range 3 {
		refuses(t, c, 4)
		is(t, c, 4, 0, false)
	}
	frees(t, c, 28)
	allocs(t, c, 4)
}

func TestReleasedBehindACommit(t *testing.T) {
	c := made(t, 32)
	for a := 4; a < 8; a++ {
		allocs(t, c, a)
	}
	refs(t, c, 6, api.OK)
	c.Commit()
	unrefs(t, c, 5, 0)
	unrefs(t, c, 6, 1)
	frees(t, c, 24)
	for a := 8; a < 32; a++ {
		allocs(t, c, a)
	}
	noSpace(t, c)
	unrefs(t, c, 6, 0)
	unrefs(t, c, 30, 0) // this one was not committed
	frees(t, c, 1)
	allocs(t, c, 30)
	noSpace(t, c)
	c.Commit()
	frees(t, c, 2)
	allocs(t, c, 5)
	allocs(t, c, 6)
	noSpace(t, c)
}

func TestReleasedWithNoCommitBetween(t *testing.T) {
	c := made(t, 32)
	for range 3 {
		allocs(t, c, 4)
		allocs(t, c, 5)
		unrefs(t, c, 4, 0)
		frees(t, c, 27)
		allocs(t, c, 4)
		unrefs(t, c, 5, 0)
		unrefs(t, c, 4, 0)
		frees(t, c, 28)
	}
	c.Commit()
	allocs(t, c, 4)
}

func TestFreshAheadOfAndBehindACommit(t *testing.T) {
	c := made(t, 32)
	is(t, c, 4, 0, false)
	allocs(t, c, 4)
	is(t, c, 4, 1, true)
	refs(t, c, 4, api.OK)
	is(t, c, 4, 2, true)
	c.Commit()
	is(t, c, 4, 2, false)
	refs(t, c, 4, api.OK)
	is(t, c, 4, 3, false)
	allocs(t, c, 5)
	is(t, c, 5, 1, true)
	unrefs(t, c, 5, 0)
	is(t, c, 5, 0, false)
	for x := 2; x >= 0; x-- {
		unrefs(t, c, 4, x)
		is(t, c, 4, x, false)
	}
	c.Commit()
	is(t, c, 4, 0, false)
	allocs(t, c, 4)
	is(t, c, 4, 1, true)
	c.Commit()
	c.Commit()
	is(t, c, 4, 1, false)
}

func TestGetAndFreshOfSectorsThatThereAreNot(t *testing.T) {
	for _, n := range sizes {
		c, _ := worked(t, n)
		for _, a := range append([]int{n, n + 1, area(n)*118 - 1, area(n) * 118}, nowhere...) {
			if a < 0 || a >= n {
				is(t, c, a, 0, false)
			}
		}
		for a := range first(n) {
			is(t, c, a, 0, false)
		}
	}
}

func TestFreeBehindEachCall(t *testing.T) {
	c := made(t, 512)
	want := func(n int) {
		t.Helper()
		frees(t, c, n)
		frees(t, c.Clone(), n)
	}
	want(500)
	allocs(t, c, 12)
	want(499)
	refs(t, c, 12, api.OK)
	want(499)
	refuses(t, c, 13)
	want(499)
	unrefs(t, c, 12, 1)
	want(499)
	unrefs(t, c, 12, 0)
	want(500)
	allocs(t, c, 12)
	allocs(t, c, 13)
	c.Commit()
	want(498)
	c.Get(14)
	c.Fresh(14)
	c.Body(0)
	c.Clone().Alloc()
	want(498)
	unrefs(t, c, 13, 0)
	want(498)
	refuses(t, c, 13)
	want(498)
	c.Commit()
	want(499)
	frees(t, loaded(t, 512, laid(512, map[int]int{12: 1, 511: 300})), 498)
}

// P8.3

func TestBodyOfEachSectorOfAnArea(t *testing.T) {
	for _, n := range sizes {
		c, m := worked(t, n)
		for i, want := range laid(n, m.now) {
			if b := c.Body(i); len(b) != 236 || !bytes.Equal(b, want) {
				t.Errorf("Body(%d) of %d sectors: %x, not %x", i, n, b, want)
			}
		}
	}
}

func TestBodyByteByByte(t *testing.T) {
	c := made(t, 119) // its areas have two sectors each, and its last sector stands alone in the second body
	for a := 6; a < 119; a++ {
		allocs(t, c, a)
	}
	for range 0x0102 {
		refs(t, c, 7, api.OK)
		refs(t, c, 118, api.OK)
	}
	one, two := make([]byte, 236), make([]byte, 236)
	for i := 13; i < 236; i += 2 {
		one[i] = 1
	}
	one[14], one[15] = 1, 3
	two[0], two[1] = 1, 3
	if b := c.Body(0); !bytes.Equal(b, one) {
		t.Errorf("the first: %x", b)
	}
	if b := c.Body(1); !bytes.Equal(b, two) {
		t.Errorf("the second: %x", b)
	}
}

func TestBodyTellsNoCommittedCounts(t *testing.T) {
	c := made(t, 32)
	allocs(t, c, 4)
	c.Commit()
	unrefs(t, c, 4, 0)
	allocs(t, c, 5)
	if b := c.Body(0); !bytes.Equal(b, laid(32, map[int]int{5: 1})[0]) {
		t.Errorf("%x", b)
	}
}

func TestBodyThatThereIsNot(t *testing.T) {
	for _, n := range sizes {
		c, _ := worked(t, n)
		for _, i := range append([]int{area(n), area(n) + 1, n, math.MaxInt/118 + 1}, nowhere...) {
			if b := c.Body(i); len(b) != 0 {
				t.Errorf("Body(%d) of %d sectors: %x", i, n, b)
			}
		}
	}
}

func TestBodyIsIndependentOfTheCounts(t *testing.T) {
	for _, n := range []int{32, 119} {
		c, m := worked(t, n)
		one := c.Body(0)
		lent.Scribble(one)
		agrees(t, c, m)
		two, held := c.Body(0), c.Body(0)
		lent.Scribble(two)
		if !bytes.Equal(held, laid(n, m.now)[0]) {
			t.Error("a change of one body shows in another")
		}
		unrefs(t, c, n-1, 0x0101)
		c.Commit()
		if !bytes.Equal(held, laid(n, m.now)[0]) {
			t.Error("a later call shows in a body")
		}
	}
}

func TestLoadOfWhatIsLaid(t *testing.T) {
	for _, n := range sizes {
		for _, now := range []map[int]int{
			{},
			{first(n): 1},
			{n - 1: 65535},
			{first(n): 0x0100, first(n) + 1: 0x00ff, n - 2: 0x8000, n - 1: 0x0102},
		} {
			m := &model{n, now, now}
			agrees(t, loaded(t, n, laid(n, now)), m)
		}
	}
}

func TestLoadOfTooFewOrTooManyBodies(t *testing.T) {
	for _, n := range sizes {
		good := laid(n, map[int]int{n - 1: 1})
		loaded(t, n, good)
		refused(t, "none", n, nil, api.ErrCorrupt)
		refused(t, "none", n, [][]byte{}, api.ErrCorrupt)
		for i := range good {
			refused(t, "too few", n, good[:i], api.ErrCorrupt)
		}
		refused(t, "too many", n, append(laid(n, nil), make([]byte, 236)), api.ErrCorrupt)
		refused(t, "too many", n, append(laid(n, nil), nil), api.ErrCorrupt)
		refused(t, "twice as many", n, append(laid(n, nil), good...), api.ErrCorrupt)
	}
}

func TestLoadOfBodiesOfOtherLengths(t *testing.T) {
	for _, n := range sizes {
		for i := range area(n) {
			for _, length := range []int{0, 1, 2, 234, 235, 237, 238, 256, 472} {
				l := laid(n, nil)
				l[i] = make([]byte, length)
				refused(t, "another length", n, l, api.ErrCorrupt)
			}
			l := laid(n, nil)
			l[i] = nil
			refused(t, "nil", n, l, api.ErrCorrupt)
			l[i] = make([]byte, 235, 236)
			refused(t, "room for one more", n, l, api.ErrCorrupt)
		}
	}
}

func TestLoadOfACountWhereThereMayBeNone(t *testing.T) {
	for _, n := range sizes {
		for a := range area(n) * 118 {
			for _, x := range []int{1, 0x0100, 0x00ff, 0x8000, 65535} {
				l := laid(n, map[int]int{a: x})
				if a < first(n) || a >= n {
					refused(t, "reserved, or not there", n, l, api.ErrCorrupt)
				} else if c := loaded(t, n, l); c.Get(a) != x {
					t.Errorf("sector %d of %d has %d, not %d", a, n, c.Get(a), x)
				}
			}
		}
	}
}

func TestLoadOfNoSuchNumber(t *testing.T) {
	for _, n := range append([]int{0, 1, 31, 2049, 4096}, nowhere...) {
		if n == 2048 {
			continue
		}
		refused(t, "no bodies", n, nil, api.ErrArg)
		refused(t, "bodies that may be elsewhere", n, laid(32, nil), api.ErrArg)
		refused(t, "bodies that may be elsewhere", n, laid(2048, nil), api.ErrArg)
		refused(t, "a short body", n, [][]byte{make([]byte, 235)}, api.ErrArg)
		refused(t, "a nil one", n, [][]byte{nil}, api.ErrArg)
		refused(t, "a count at a reserved sector", n, laid(32, map[int]int{3: 1}), api.ErrArg)
		refused(t, "many", n, make([][]byte, 1000), api.ErrArg)
	}
}

func TestNothingIsFreshBehindALoad(t *testing.T) {
	for _, n := range sizes {
		now := map[int]int{}
		for a := first(n); a < n; a++ {
			now[a] = a%3*0x0100 + 1
		}
		c := loaded(t, n, laid(n, now))
		for a := range n {
			is(t, c, a, now[a], false)
		}
		noSpace(t, c)
		unrefs(t, c, n-1, now[n-1]-1)
		for c.Get(n-1) > 0 {
			c.Unref(n - 1)
		}
		noSpace(t, c) // it was committed
		c.Commit()
		allocs(t, c, n-1)
		is(t, c, n-1, 1, true)
	}
}

func TestLoadOfTheMost(t *testing.T) {
	c := loaded(t, 32, laid(32, map[int]int{31: 65535, 30: 65534}))
	refs(t, c, 31, api.ErrLong)
	refs(t, c, 30, api.OK)
	refs(t, c, 30, api.ErrLong)
	unrefs(t, c, 31, 65534)
}

func TestLoadLeavesWhatIsHandedIn(t *testing.T) {
	for _, n := range []int{32, 119, 2048} {
		for _, now := range []map[int]int{{}, {n - 1: 0x0102, first(n): 7}, {0: 1}} {
			want := laid(n, now)
			given := make([][]byte, 0, len(want)+2)
			for _, b := range want {
				given = append(given, lent.Bytes(string(b)))
			}
			c, e := counts.Load(n, given)
			for i := range want {
				if !lent.Untouched(given[i], string(want[i])) {
					t.Errorf("body %d of %d was changed", i, n)
				}
			}
			if more := given[:cap(given)][len(given):]; more[0] != nil || more[1] != nil {
				t.Error("something was written behind the bodies")
			}
			if e != api.OK {
				continue
			}
			for i := range given {
				lent.Scribble(given[i])
				given[i] = nil
			}
			m := &model{n, now, now}
			agrees(t, c, m)
		}
	}
}

func TestACloneGoesItsOwnWay(t *testing.T) {
	for _, n := range sizes {
		c, m := worked(t, n)
		c.Commit()
		m.commit()
		d, was := c.Clone(), m.clone()
		for range 2 {
			a, _ := m.alloc()
			allocs(t, c, a)
		}
		refs(t, c, n-1, api.OK)
		m.now[n-1]++
		unrefs(t, c, n-2, 0x8000)
		m.now[n-2]--
		agrees(t, c, m)
		agrees(t, d, was)
		c.Commit()
		m.commit()
		agrees(t, c, m)
		agrees(t, d, was)
	}
}

func TestTheOriginalOfAClone(t *testing.T) {
	for _, n := range sizes {
		c, m := worked(t, n)
		d, other := c.Clone(), m.clone()
		d.Commit()
		other.commit()
		a, _ := other.alloc()
		allocs(t, d, a)
		refs(t, d, a, api.OK)
		other.now[a]++
		unrefs(t, d, n-1, 0x0101)
		other.now[n-1]--
		agrees(t, d, other)
		agrees(t, c, m)
		d.Commit()
		other.commit()
		agrees(t, d.Clone().Clone(), other)
		agrees(t, c, m)
	}
}

func TestTwoCountsHaveNothingInCommon(t *testing.T) {
	a, b := made(t, 64), made(t, 64)
	l := laid(64, map[int]int{4: 2})
	x, y := loaded(t, 64, l), loaded(t, 64, l)
	allocs(t, a, 4)
	a.Commit()
	unrefs(t, x, 4, 1)
	unrefs(t, x, 4, 0)
	x.Commit()
	agrees(t, b, modelOf(64))
	agrees(t, y, &model{64, map[int]int{4: 2}, map[int]int{4: 2}})
}

// P8.4

func TestLoadOfAllBodies(t *testing.T) {
	for _, n := range sizes {
		c, m := worked(t, n)
		var l [][]byte
		for i := range area(n) {
			l = append(l, c.Body(i))
		}
		d := loaded(t, n, l)
		m.commit()
		agrees(t, d, m)
		for i := range l {
			if !bytes.Equal(d.Body(i), l[i]) {
				t.Errorf("body %d of %d sectors is another one", i, n)
			}
		}
		if n >= 119 { // the bodies in another order are other counts, which may not be: the reserved sectors stand in the first one
			slices.Reverse(l)
			refused(t, "in another order", n, l, api.ErrCorrupt)
		}
	}
}

// TestManyCalls holds counts against the model, call by call.
func TestManyCalls(t *testing.T) {
	for seed, n := range []int{32, 33, 119, 237} {
		random := rand.New(rand.NewPCG(8, uint64(seed)))
		c, m := made(t, n), modelOf(n)
		clones, told := 0, map[api.Errno]int{}
		for range 6000 {
			a := random.IntN(n+4) - 2
			if l := slices.Sorted(maps.Keys(m.now)); len(l) > 0 && random.IntN(4) > 0 {
				a = l[random.IntN(len(l))]
			}
			switch random.IntN(12) {
			case 0, 1, 2, 3:
				want, wants := m.alloc()
				got, e := c.Alloc()
				if got != want || e != wants {
					t.Fatalf("Alloc of %d: %d, %d, not %d, %d", n, got, e, want, wants)
				}
				told[e]++
			case 4, 5:
				refs(t, c, a, m.ref(a))
			case 6, 7, 8, 9:
				want, wants := m.unref(a)
				if got, e := c.Unref(a); got != want || e != wants {
					t.Fatalf("Unref(%d) of %d: %d, %d, not %d, %d", a, n, got, e, want, wants)
				}
			case 10:
				if random.IntN(8) == 0 {
					c.Commit()
					m.commit()
				}
			case 11:
				if d := c.Clone(); random.IntN(2) == 0 {
					c.Alloc() // the other one shows nothing of it
					c, clones = d, clones+1
				} else {
					d.Alloc()
					d.Commit()
				}
			}
			if random.IntN(20) == 0 {
				agrees(t, c, m)
			}
		}
		agrees(t, c, m)
		if told[api.OK] < 100 || clones == 0 || n < 40 && told[api.ErrSpace] < 20 {
			t.Errorf("%d sectors: %v, %d clones are too few to tell", n, told, clones)
		}
	}
}

// TestAllocTellsWhatNothingNames follows P8.4's words: who holds a sector, and who held it at the last commit, is kept beside.
func TestAllocTellsWhatNothingNames(t *testing.T) {
	random := rand.New(rand.NewPCG(8, 4))
	c := made(t, 64)
	var holders, committed []int // a sector stands in it once for each that names it
	for range 20000 {
		switch random.IntN(20) {
		case 0:
			c.Commit()
			committed = slices.Clone(holders)
		case 1, 2, 3, 4, 5, 6, 7:
			a, e := c.Alloc()
			if e != api.OK {
				continue
			}
			if a < 4 || a >= 64 || slices.Contains(holders, a) || slices.Contains(committed, a) {
				t.Fatalf("Alloc of %d, which is reserved, named or committed", a)
			}
			holders = append(holders, a)
		default:
			if len(holders) == 0 {
				continue
			}
			i := random.IntN(len(holders))
			if a := holders[i]; random.IntN(3) == 0 {
				refs(t, c, a, api.OK)
				holders = append(holders, a)
			} else {
				holders = slices.Delete(holders, i, i+1)
				c.Unref(a)
			}
		}
	}
	for a := range 64 {
		n := 0
		for _, h := range holders {
			if h == a {
				n++
			}
		}
		if c.Get(a) != n {
			t.Errorf("sector %d has %d, and is named %d times", a, c.Get(a), n)
		}
	}
}

// R6

func TestTheSameAgain(t *testing.T) {
	for _, n := range sizes {
		one, m := worked(t, n)
		counts.New(31)
		counts.Load(n, nil)
		counts.Load(n, laid(n, map[int]int{0: 1}))
		two, _ := worked(t, n)
		agrees(t, one, m)
		agrees(t, two, m)
	}
}
