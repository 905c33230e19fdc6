package super_test

import (
	"bytes"
	"encoding/binary"
	"hash/crc32"
	"math"
	"math/rand/v2"
	"slices"
	"strings"
	"testing"

	"cambium/api"
	"cambium/lent"
	"cambium/super"
)

// Where a block has what, by the chapters' words.
const (
	kindAt, levelAt, addrAt, countAt, genAt, paddingAt = 4, 5, 6, 8, 10, 15
	sectorsAt, logAt, volsAt, volSize                  = 20, 22, 24, 18
	nameAt, readOnlyAt, rootAt, nextAt                 = 1, 11, 12, 14 // behind a subvolume's first byte
	behindVols                                         = volsAt + 8*volSize
)

var home = api.Vol{Name: "home", ReadOnly: true, Root: 7, Next: 3}

// holding is a valid superblock with subvolumes from the first on, where the name is not empty.
func holding(vols ...api.Vol) api.Super {
	s := api.Super{Gen: 5, Sectors: 64, Log: 9}
	copy(s.Vols[:], vols)
	return s
}

func changed(s api.Super, change func(s *api.Super)) api.Super {
	change(&s)
	return s
}

// full has eight subvolumes, with the edges of what is in them.
func full() api.Super {
	return api.Super{Gen: 1<<40 - 1, Sectors: 2048, Log: 2047, Vols: [8]api.Vol{
		{Name: "a", Next: 2},
		{Name: "0123456789", ReadOnly: true, Root: 2047, Next: 1<<31 - 1},
		{Name: "-", Root: 1, Next: 256},
		{Name: "----------", Root: 2, Next: 65536},
		{Name: "aaaaaaaaaa", ReadOnly: true, Root: 255, Next: 1 << 24},
		{Name: "aaaaaaaaa", Root: 256, Next: 3},
		{Name: "z-9", Root: 0x0203, Next: 0x04050607},
		{Name: "9-z", Root: 0x0203, Next: 0x04050607},
	}}
}

// all are valid superblocks.
func all() []api.Super {
	s := holding(home)
	l := []api.Super{
		{Gen: 1, Sectors: 32},
		{Gen: 2, Sectors: 33, Log: 32},
		{Gen: 1<<40 - 1, Sectors: 2048, Log: 2047},
		{Gen: 0x0102030405, Sectors: 0x0607, Log: 0x0506},
		s, full(),
		holding(api.Vol{}, api.Vol{}, home),
		holding(api.Vol{}, api.Vol{}, api.Vol{}, api.Vol{}, api.Vol{}, api.Vol{}, api.Vol{}, home),
	}
	for i := range 8 { // all but one
		l = append(l, changed(full(), func(s *api.Super) { s.Vols[i] = api.Vol{} }))
	}
	for _, c := range edges() {
		if c.may {
			l = append(l, changed(s, c.change))
		}
	}
	return l
}

// edge is a change of a valid superblock of 64 sectors with one subvolume, and whether it may be then.
type edge struct {
	name   string
	may    bool
	change func(s *api.Super)
}

func edges() []edge {
	l := []edge{
		{"Gen", false, func(s *api.Super) { s.Gen = 0 }},
		{"Gen", true, func(s *api.Super) { s.Gen = 1 }},
		{"Gen", true, func(s *api.Super) { s.Gen = 1<<40 - 1 }},
		{"Gen", false, func(s *api.Super) { s.Gen = 1 << 40 }},
		{"Gen", false, func(s *api.Super) { s.Gen = 1<<40 + 1 }},
		{"Gen", false, func(s *api.Super) { s.Gen = -1 }},
		{"Gen", false, func(s *api.Super) { s.Gen = math.MinInt }},
		{"Gen", false, func(s *api.Super) { s.Gen = math.MaxInt }},
		{"Sectors", false, func(s *api.Super) { s.Sectors = 31 }},
		{"Sectors", true, func(s *api.Super) { s.Sectors = 32 }},
		{"Sectors", true, func(s *api.Super) { s.Sectors = 33 }},
		{"Sectors", true, func(s *api.Super) { s.Sectors = 2047 }},
		{"Sectors", true, func(s *api.Super) { s.Sectors = 2048 }},
		{"Sectors", false, func(s *api.Super) { s.Sectors = 2049 }},
		{"Sectors", false, func(s *api.Super) { s.Sectors = 65536 + 64 }},
		{"Sectors", false, func(s *api.Super) { s.Sectors = 0 }},
		{"Sectors", false, func(s *api.Super) { s.Sectors = -64 }},
		{"Sectors", false, func(s *api.Super) { s.Sectors = math.MinInt }},
		{"Sectors", false, func(s *api.Super) { s.Sectors = math.MaxInt }},
		{"no sectors, and all else noughts", false, func(s *api.Super) { *s = api.Super{} }},
		{"no label", false, func(s *api.Super) { s.Vols[0].Name = "" }},
		{"no label", false, func(s *api.Super) { s.Vols[0].Name = "Home" }},
		{"no label", false, func(s *api.Super) { s.Vols[0].Name = "home/" }},
		{"no label", false, func(s *api.Super) { s.Vols[0].Name = "home\x00" }},
		{"no label", false, func(s *api.Super) { s.Vols[0].Name = "homehomehom" }},
		{"a label", true, func(s *api.Super) { s.Vols[0].Name = "homehomeho" }},
		{"nothing but a name", false, func(s *api.Super) { s.Vols[4] = api.Vol{Name: "a"} }},
		{"nothing but ReadOnly", false, func(s *api.Super) { s.Vols[4] = api.Vol{ReadOnly: true} }},
		{"nothing but a Root", false, func(s *api.Super) { s.Vols[4] = api.Vol{Root: 1} }},
		{"nothing but a Next", false, func(s *api.Super) { s.Vols[4] = api.Vol{Next: 2} }},
		{"all but a name", false, func(s *api.Super) { s.Vols[7] = api.Vol{ReadOnly: true, Root: 1, Next: 2} }},
		{"nothing but a name and a Next", true, func(s *api.Super) { s.Vols[7] = api.Vol{Name: "a", Next: 2} }},
		{"like names", true, func(s *api.Super) { s.Vols[1] = api.Vol{Name: "homd", Next: 2} }},
		{"like names", true, func(s *api.Super) { s.Vols[1] = api.Vol{Name: "hom", Next: 2} }},
		{"like names", true, func(s *api.Super) { s.Vols[1] = api.Vol{Name: "home-", Next: 2} }},
		{"all but the name alike", true, func(s *api.Super) { s.Vols[1] = s.Vols[0]; s.Vols[1].Name = "hom3" }},
		{"no subvolume", true, func(s *api.Super) { s.Vols[0] = api.Vol{} }},
	}
	for i := range 8 { // each subvolume counts, and is held against each other one
		l = append(l, edge{"one of no Next", false, func(s *api.Super) { *s = changed(full(), func(s *api.Super) { s.Vols[i].Next = 1 }) }})
		l = append(l, edge{"one of a great Root", false, func(s *api.Super) { *s = changed(full(), func(s *api.Super) { s.Vols[i].Root = 2048 }) }})
		l = append(l, edge{"one of no name", false, func(s *api.Super) { *s = changed(full(), func(s *api.Super) { s.Vols[i].Name = "" }) }})
		for j := range i {
			l = append(l, edge{"two of one name", false, func(s *api.Super) { *s = changed(full(), func(s *api.Super) { s.Vols[i].Name = s.Vols[j].Name }) }})
			l = append(l, edge{"the same one twice", false, func(s *api.Super) { *s = changed(full(), func(s *api.Super) { s.Vols[i] = s.Vols[j] }) }})
		}
	}
	for _, x := range []int{math.MinInt, -64, -1, 0, 1, 62, 63, 64, 65, 2047, 2048, 65536, math.MaxInt} {
		may := x >= 0 && x <= 63
		l = append(l, edge{"Log", may, func(s *api.Super) { s.Log = x }})
		l = append(l, edge{"Root", may, func(s *api.Super) { s.Vols[0].Root = x }})
	}
	for _, sectors := range []int{32, 33, 2047, 2048} {
		for _, more := range []int{-1, 0, 1} {
			l = append(l, edge{"Log at the end", more < 0, func(s *api.Super) { s.Sectors, s.Log = sectors, sectors+more }})
			l = append(l, edge{"Root at the end", more < 0, func(s *api.Super) { s.Sectors, s.Vols[0].Root = sectors, sectors+more }})
		}
	}
	for _, x := range []int{math.MinInt, -2, -1, 0, 1, 2, 3, 1<<31 - 2, 1<<31 - 1, 1 << 31, 1<<32 + 2, math.MaxInt} {
		l = append(l, edge{"Next", x >= 2 && x <= 1<<31-1, func(s *api.Super) { s.Vols[0].Next = x }})
	}
	return l
}

// laid is the block of a superblock as the chapter tells it, whether it may be or not.
func laid(s api.Super, slot int) []byte {
	b := make([]byte, 256)
	b[kindAt] = 1
	binary.BigEndian.PutUint16(b[addrAt:], uint16(slot))
	b[genAt] = byte(s.Gen >> 32)
	binary.BigEndian.PutUint32(b[genAt+1:], uint32(s.Gen))
	binary.BigEndian.PutUint16(b[sectorsAt:], uint16(s.Sectors))
	binary.BigEndian.PutUint16(b[logAt:], uint16(s.Log))
	for i, v := range s.Vols {
		x := b[volsAt+volSize*i:]
		x[0] = byte(len(v.Name))
		copy(x[nameAt:readOnlyAt], v.Name)
		if v.ReadOnly {
			x[readOnlyAt] = 1
		}
		binary.BigEndian.PutUint16(x[rootAt:], uint16(v.Root))
		binary.BigEndian.PutUint32(x[nextAt:], uint32(v.Next))
	}
	return right(b)
}

// right gives bytes the sum that belongs to them.
func right(b []byte) []byte {
	binary.BigEndian.PutUint32(b, crc32.Checksum(b[4:], crc32.MakeTable(crc32.Castagnoli)))
	return b
}

// turned has a byte of another value, and the sum that belongs to it.
func turned(b []byte, at int, c byte) []byte {
	b = bytes.Clone(b)
	b[at] = c
	return right(b)
}

// decoded reads a block with a right sum as the chapter tells it, and tells whether it is a valid superblock's.
func decoded(b []byte, slot int) (api.Super, bool) {
	short := func(b []byte) int { return int(binary.BigEndian.Uint16(b)) }
	noughts := func(b []byte) bool { return bytes.Equal(b, make([]byte, len(b))) }
	s := api.Super{Gen: int(b[genAt])<<32 | int(binary.BigEndian.Uint32(b[genAt+1:])), Sectors: short(b[sectorsAt:]), Log: short(b[logAt:])}
	if b[kindAt] != 1 || b[levelAt] != 0 || short(b[addrAt:]) != slot || slot > 1 || short(b[countAt:]) != 0 || !noughts(b[paddingAt:sectorsAt]) || !noughts(b[behindVols:]) {
		return api.Super{}, false
	}
	if s.Gen < 1 || s.Sectors < 32 || s.Sectors > 2048 || s.Log >= s.Sectors {
		return api.Super{}, false
	}
	names := map[string]bool{}
	for i := range s.Vols {
		x := b[volsAt+volSize*i:][:volSize]
		if noughts(x) {
			continue
		}
		n, next := int(x[0]), int(binary.BigEndian.Uint32(x[nextAt:]))
		if n < 1 || n > 10 || !noughts(x[nameAt+n:readOnlyAt]) || x[readOnlyAt] > 1 || short(x[rootAt:]) >= s.Sectors || next < 2 || next > 1<<31-1 {
			return api.Super{}, false
		}
		name := string(x[nameAt : nameAt+n])
		if names[name] || strings.Trim(name, "abcdefghijklmnopqrstuvwxyz0123456789-") != "" || !label(name) {
			return api.Super{}, false
		}
		names[name] = true
		s.Vols[i] = api.Vol{Name: name, ReadOnly: x[readOnlyAt] == 1, Root: short(x[rootAt:]), Next: next}
	}
	return s, true
}

// label is what the chapter calls one, byte by byte.
func label(s string) bool {
	for _, c := range []byte(s) {
		if !strings.Contains("abcdefghijklmnopqrstuvwxyz0123456789-", string(rune(c))) {
			return false
		}
	}
	return len(s) >= 1 && len(s) <= 10
}

// written is a block that must come about.
func written(t *testing.T, s api.Super, slot int) []byte {
	t.Helper()
	b, e := super.Write(s, slot)
	if e != api.OK {
		t.Fatalf("%+v in %d: %d", s, slot, e)
	}
	return b
}

// refused asks Write for ErrArg, and for nothing beside it.
func refused(t *testing.T, what string, s api.Super, slot int) {
	t.Helper()
	if b, e := super.Write(s, slot); b != nil || e != api.ErrArg {
		t.Errorf("%s: Write in %d: %d bytes, %d", what, slot, len(b), e)
	}
}

// reads asks Read for a superblock.
func reads(t *testing.T, b []byte, slot int, want api.Super) {
	t.Helper()
	if s, e := super.Read(b, slot); s != want || e != api.OK {
		t.Errorf("in %d: %+v, %d, not %+v", slot, s, e, want)
	}
}

// corrupt asks Read for ErrCorrupt, and for nothing beside it.
func corrupt(t *testing.T, what string, b []byte, slot int) {
	t.Helper()
	if s, e := super.Read(b, slot); s != (api.Super{}) || e != api.ErrCorrupt {
		t.Errorf("%s: Read in %d: %+v, %d", what, slot, s, e)
	}
}

// newer asks Newer for a superblock and its slot.
func newer(t *testing.T, what string, a, b []byte, want api.Super, slot int) {
	t.Helper()
	if s, i, e := super.Newer(a, b); s != want || i != slot || e != api.OK {
		t.Errorf("%s: %+v, %d, %d, not %+v, %d", what, s, i, e, want, slot)
	}
}

// none asks Newer for ErrSystem, and for nothing beside it.
func none(t *testing.T, what string, a, b []byte) {
	t.Helper()
	if s, i, e := super.Newer(a, b); s != (api.Super{}) || i != 0 || e != api.ErrSystem {
		t.Errorf("%s: %+v, %d, %d", what, s, i, e)
	}
}

// P7.1

func TestLabelOfEachByte(t *testing.T) {
	for c := range 256 {
		for _, s := range []string{"?", "?a", "a?", "0?-", "????"} {
			s = strings.ReplaceAll(s, "?", string([]byte{byte(c)}))
			if got := super.Label(s); got != label(s) {
				t.Errorf("%q: %v", s, got)
			}
		}
	}
	for _, c := range "abcdefghijklmnopqrstuvwxyz0123456789-" {
		if !super.Label(string(c)) {
			t.Errorf("%c is none", c)
		}
	}
	for _, c := range "/`{@[:,._ +AZ\x00\x80\xff" {
		if super.Label(string(c)) || super.Label("a"+string(c)) || super.Label(string(c)+"a") {
			t.Errorf("%c is one", c)
		}
	}
}

func TestLabelOfEachLength(t *testing.T) {
	for _, c := range []string{"a", "z", "0", "9", "-"} {
		for n := range 300 {
			if got := super.Label(strings.Repeat(c, n)); got != (n >= 1 && n <= 10) {
				t.Errorf("%d times %s: %v", n, c, got)
			}
		}
	}
	for _, s := range []string{"é", "ａ", "aé", "\U0001d7d8", strings.Repeat("a", 9) + "é", strings.Repeat("é", 5)} {
		if super.Label(s) {
			t.Errorf("%q is one", s)
		}
	}
}

func TestMayAtTheEdges(t *testing.T) {
	if !super.May(holding(home)) {
		t.Fatal("what is changed may not be")
	}
	for i, c := range edges() {
		s := changed(holding(home), c.change)
		if got := super.May(s); got != c.may {
			t.Errorf("%d, %s: %+v: %v", i, c.name, s, got)
		}
		if !c.may {
			refused(t, c.name, s, 0)
			refused(t, c.name, s, 1)
		}
	}
	for _, s := range all() {
		if !super.May(s) {
			t.Errorf("%+v may not be", s)
		}
	}
}

func TestWriteOfASuperblock(t *testing.T) {
	s := api.Super{Gen: 0x0102030405, Sectors: 0x0607, Log: 0x0506}
	s.Vols[1] = api.Vol{Name: "a-0", ReadOnly: true, Root: 0x0102, Next: 0x03040506}
	b := written(t, s, 1)
	const head = "\x01\x00\x00\x01\x00\x00\x01\x02\x03\x04\x05\x00\x00\x00\x00\x00"
	body := "\x06\x07\x05\x06" + strings.Repeat("\x00", 18) + "\x03a-0\x00\x00\x00\x00\x00\x00\x00\x01\x01\x02\x03\x04\x05\x06" + strings.Repeat("\x00", 236-40)
	if len(b) != 256 || string(b[4:20]) != head || string(b[20:]) != body {
		t.Errorf("%d bytes: %x", len(b), b)
	}
}

func TestWriteIsAsTheChapterLaysIt(t *testing.T) {
	for _, s := range all() {
		for slot := range 2 {
			if got, want := written(t, s, slot), laid(s, slot); !bytes.Equal(got, want) {
				t.Errorf("%+v in %d: %x, not %x", s, slot, got, want)
			}
		}
	}
}

func TestWriteInNoSlot(t *testing.T) {
	for _, slot := range []int{math.MinInt, -65536, -2, -1, 2, 3, 256, 2047, 2048, 65536, 65537, math.MaxInt} {
		for _, s := range all() {
			refused(t, "a valid one", s, slot)
		}
		refused(t, "none", api.Super{}, slot)
	}
}

func TestReadOfTheOtherSlot(t *testing.T) {
	for _, s := range all() {
		for _, slot := range []int{math.MinInt, -65536, -65535, -1, 1, 2, 3, 256, 65536, 65537, math.MaxInt} {
			corrupt(t, "a block of slot 0", laid(s, 0), slot)
		}
		corrupt(t, "a block of slot 1", laid(s, 1), 0)
		for _, slot := range []int{2, 3, 2047, 2048, 65535} {
			corrupt(t, "a block of a slot that is none", laid(s, slot), slot)
		}
	}
}

func TestReadOfAnotherHeader(t *testing.T) {
	for _, s := range all() {
		for kind := range 256 {
			if kind != 1 {
				corrupt(t, "another kind", turned(laid(s, 0), kindAt, byte(kind)), 0)
			}
		}
		for level := 1; level < 256; level++ {
			corrupt(t, "a Level", turned(laid(s, 0), levelAt, byte(level)), 0)
		}
		for c := 1; c < 256; c++ {
			corrupt(t, "a Count", turned(laid(s, 0), countAt, byte(c)), 0)
			corrupt(t, "a Count", turned(laid(s, 0), countAt+1, byte(c)), 0)
		}
		corrupt(t, "no Gen", laid(changed(s, func(s *api.Super) { s.Gen = 0 }), 0), 0)
	}
}

func TestReadOfNames(t *testing.T) {
	b := laid(full(), 0)
	for i, v := range full().Vols {
		at := volsAt + volSize*i
		for n := range 256 {
			if n != len(v.Name) {
				corrupt(t, "a length beside the name's", turned(b, at, byte(n)), 0)
			}
		}
		for j := len(v.Name); j < 10; j++ {
			corrupt(t, "a letter behind the name", turned(b, at+nameAt+j, 'b'), 0)
			corrupt(t, "a byte behind the name", turned(b, at+nameAt+j, 0xff), 0)
		}
		for mark := 2; mark < 256; mark++ {
			corrupt(t, "a ReadOnly beside 0 and 1", turned(b, at+readOnlyAt, byte(mark)), 0)
		}
		was := full()
		was.Vols[i].ReadOnly = !v.ReadOnly
		reads(t, laid(was, 0), 0, was)
	}
	for at := volsAt; at < behindVols; at++ {
		corrupt(t, "a byte where there is no subvolume", turned(laid(holding(), 1), at, 1), 1)
	}
}

func TestReadOfWhatIsBehindTheSubvolumes(t *testing.T) {
	for at := behindVols; at < 256; at++ {
		for c := 1; c < 256; c++ {
			corrupt(t, "a byte behind the subvolumes", turned(laid(full(), 1), at, byte(c)), 1)
		}
	}
}

func TestReadOfWhatMayNotBe(t *testing.T) {
	fits := func(s api.Super) bool { // whether the numbers' bytes hold it
		if s.Gen < 0 || s.Gen > 1<<40-1 || s.Sectors < 0 || s.Sectors > 65535 || s.Log < 0 || s.Log > 65535 {
			return false
		}
		return !slices.ContainsFunc(s.Vols[:], func(v api.Vol) bool {
			return v.Root < 0 || v.Root > 65535 || v.Next < 0 || v.Next > 1<<32-1
		})
	}
	for _, c := range edges() {
		if s := changed(holding(home), c.change); !c.may && fits(s) {
			corrupt(t, c.name, laid(s, 0), 0)
			corrupt(t, c.name, laid(s, 1), 1)
		}
	}
}

// TestReadOfEachByte holds Read against the decoder, over every value of every byte up to the last subvolume's.
func TestReadOfEachByte(t *testing.T) {
	for i, s := range []api.Super{{Gen: 1, Sectors: 32}, holding(home), full(), holding(api.Vol{}, home, api.Vol{Name: "hom", Next: 2}, api.Vol{Name: "hnme", Next: 2})} {
		slot := i % 2
		good := laid(s, slot)
		for at := 4; at < behindVols; at++ {
			for c := range 256 {
				b := turned(good, at, byte(c))
				if want, is := decoded(b, slot); is {
					reads(t, b, slot, want)
				} else {
					corrupt(t, "a byte of another value", b, slot)
				}
			}
		}
	}
}

// TestReadOfManyBytes does so with several bytes of other values.
func TestReadOfManyBytes(t *testing.T) {
	random := rand.New(rand.NewPCG(7, 1))
	good, valid := all(), 0
	for range 20000 {
		b := laid(good[random.IntN(len(good))], 0)
		for range 1 + random.IntN(4) {
			b[4+random.IntN(behindVols-4)] ^= byte(1 << random.IntN(8))
		}
		if want, is := decoded(right(b), 0); is {
			valid++
			reads(t, b, 0, want)
		} else {
			corrupt(t, "several bytes of other values", b, 0)
		}
	}
	if valid < 500 {
		t.Errorf("%d valid ones are too few to tell", valid)
	}
}

func TestReadOfOtherLengths(t *testing.T) {
	b := laid(full(), 0)
	for _, n := range []int{0, 1, 4, 20, 24, 167, 168, 255} {
		corrupt(t, "too few bytes", b[:n:n], 0)
		corrupt(t, "too few bytes, and the rest behind them", b[:n], 0)
		if n >= 4 {
			corrupt(t, "too few bytes with a right sum", right(bytes.Clone(b[:n])), 0)
		}
	}
	for _, n := range []int{1, 256, 1000} {
		corrupt(t, "too many bytes", append(bytes.Clone(b), make([]byte, n)...), 0)
		corrupt(t, "too many bytes with a right sum", right(append(bytes.Clone(b), make([]byte, n)...)), 0)
	}
	corrupt(t, "nil", nil, 0)
	corrupt(t, "noughts", make([]byte, 256), 0)
	corrupt(t, "noughts with a right sum", right(make([]byte, 256)), 0)
}

// P7.2

func TestNewerOfTheExample(t *testing.T) {
	none(t, "nil", nil, nil)
	none(t, "empty", []byte{}, []byte{})
	none(t, "noughts", make([]byte, 256), make([]byte, 256))
}

func TestNewerOfTwo(t *testing.T) {
	for _, a := range all() {
		for _, b := range all() {
			want, slot := a, 0
			if b.Gen > a.Gen {
				want, slot = b, 1
			}
			newer(t, "two", laid(a, 0), laid(b, 1), want, slot)
		}
	}
	for _, gens := range [][3]int{{1, 1, 0}, {1, 2, 1}, {2, 1, 0}, {255, 256, 1}, {256, 255, 0}, {1<<32 - 1, 1 << 32, 1}, {1 << 32, 1<<32 - 1, 0}, {1<<40 - 2, 1<<40 - 1, 1}, {1<<40 - 1, 1, 0}, {1<<40 - 1, 1<<40 - 1, 0}} {
		two := [2]api.Super{holding(home), holding()}
		two[0].Gen, two[1].Gen = gens[0], gens[1]
		newer(t, "generations", laid(two[0], 0), laid(two[1], 1), two[gens[2]], gens[2])
	}
}

func TestNewerOfOne(t *testing.T) {
	for _, s := range all() {
		a, b := laid(s, 0), laid(s, 1)
		for name, bad := range map[string][]byte{
			"nil": nil, "noughts": make([]byte, 256), "too few bytes": a[:255], "a byte turned": append(bytes.Clone(a[:255]), 1),
			"Gen 0":               laid(changed(full(), func(s *api.Super) { s.Gen = 0 }), 0),
			"not valid":           laid(changed(full(), func(s *api.Super) { s.Log = s.Sectors }), 0),
			"another kind":        turned(a, kindAt, 2),
			"a Count":             turned(a, countAt+1, 1),
			"of a slot beyond":    laid(full(), 2),
			"too many good bytes": append(bytes.Clone(a), 0),
		} {
			newer(t, "first and "+name, a, bad, s, 0)
			newer(t, name+" and second", bad, b, s, 1)
			none(t, name, bad, bad)
		}
		newer(t, "the first twice", a, a, s, 0)
		newer(t, "the second twice", b, b, s, 1)
		none(t, "each in the other's place", b, a)
	}
}

// P7.3

func TestAreasOfTheExamples(t *testing.T) {
	for _, x := range [][3]int{{32, 1, 4}, {512, 5, 12}, {118, 1, 4}, {119, 2, 6}, {2048, 18, 38}} {
		if n, first := super.Areas(x[0]); n != x[1] || first != x[2] {
			t.Errorf("%v: %d, %d", x, n, first)
		}
	}
}

func TestAreasOfEachNumber(t *testing.T) {
	for sectors := 32; sectors <= 2048; sectors++ {
		want := 0
		for want*118 < sectors {
			want++
		}
		if n, first := super.Areas(sectors); n != want || first != 2+2*want {
			t.Errorf("%d: %d, %d, not %d", sectors, n, first, want)
		}
	}
}

// P7.4

func TestReadOfWhatWasWritten(t *testing.T) {
	for _, s := range all() {
		for slot := range 2 {
			b := written(t, s, slot)
			reads(t, b, slot, s)
			corrupt(t, "what was written in the other slot", b, 1-slot)
		}
	}
}

func TestReadOfAByteTurned(t *testing.T) {
	for _, s := range []api.Super{{Gen: 1, Sectors: 32}, holding(home), full()} {
		b := laid(s, 0)
		for at := range b {
			for c := 1; c < 256; c++ {
				b[at] ^= byte(c)
				corrupt(t, "a byte turned", b, 0)
				b[at] ^= byte(c)
			}
		}
	}
}

func TestNewerOfAByteTurned(t *testing.T) {
	older, later := holding(home), full()
	for i, pair := range [][2]api.Super{{older, later}, {later, older}} {
		a, b := written(t, pair[0], 0), written(t, pair[1], 1)
		newer(t, "both good", a, b, later, 1-i)
		for at := range 256 {
			for _, c := range []byte{1, 0x80, 0xff} {
				a[at] ^= c
				newer(t, "the first turned", a, b, pair[1], 1)
				a[at] ^= c
				b[at] ^= c
				newer(t, "the second turned", a, b, pair[0], 0)
				b[at] ^= c
			}
		}
	}
}

// R1

func TestOutlandishArgumentsDoNotPanic(t *testing.T) {
	for _, sectors := range []int{math.MinInt, -118, -1, 0, 1, 31, 2049, 1 << 40, math.MaxInt} {
		super.Areas(sectors)
	}
	long := strings.Repeat("a", 1<<16)
	wrong := changed(full(), func(s *api.Super) { s.Vols[3].Name = long })
	if super.Label(long) || super.May(wrong) {
		t.Error("a name of 65536 bytes is a label")
	}
	refused(t, "a name of 65536 bytes", wrong, 0)
	corrupt(t, "many bytes", make([]byte, 1<<16), 0)
	none(t, "many bytes", make([]byte, 1<<16), make([]byte, 1<<16))
}

// R6 and R7

func TestTheSameAgain(t *testing.T) {
	one := written(t, full(), 1)
	written(t, holding(home), 1)
	super.Write(api.Super{}, 1)
	super.Read(nil, 1)
	if two := written(t, full(), 1); !bytes.Equal(one, two) {
		t.Errorf("%x, then %x", one, two)
	}
	reads(t, one, 1, full())
	corrupt(t, "none", nil, 1)
	reads(t, one, 1, full())
	newer(t, "the second", nil, one, full(), 1)
	none(t, "none", nil, nil)
	newer(t, "the second", nil, one, full(), 1)
}

func TestBlocksAreTheCallersOwn(t *testing.T) {
	one, two := written(t, full(), 0), written(t, full(), 0)
	lent.Scribble(one)
	if !bytes.Equal(two, laid(full(), 0)) || !bytes.Equal(written(t, full(), 0), two) {
		t.Error("a change of one block shows in another")
	}
}

func TestReadLeavesWhatIsHandedIn(t *testing.T) {
	good := string(laid(full(), 0))
	for _, s := range []string{good, string(laid(holding(home), 0)), good[:255], good + "\x00", string(turned([]byte(good), countAt, 1)), string(make([]byte, 256)), ""} {
		a, b := lent.Bytes(s), lent.Bytes(s)
		read, e := super.Read(a, 0)
		chosen, _, _ := super.Newer(a, b)
		if !lent.Untouched(a, s) || !lent.Untouched(b, s) {
			t.Errorf("%x was changed", s)
		}
		lent.Scribble(a)
		lent.Scribble(b)
		if want, is := decoded([]byte((s + good)[:256]), 0); e == api.OK && (!is || read != want || chosen != want) {
			t.Errorf("a change of the bytes shows in %+v or %+v", read, chosen)
		}
	}
}
