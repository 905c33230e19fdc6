package inode_test

import (
	"encoding/binary"
	"math"
	"math/rand/v2"
	"slices"
	"strings"
	"testing"

	"cambium/api"
	"cambium/inode"
	"cambium/lent"
	"cambium/node"
)

const most = 1<<31 - 1 // of Size and Ino

// What each number may be, ordinary ones and edges; and what it may not be, some of it such that its lowest bytes may.
var (
	goodKinds = []int{1, 2}
	badKinds  = []int{0, -1, -2, 3, 4, 255, 256, 257, 258, -255, 1<<32 + 1, math.MinInt, math.MinInt + 1, math.MaxInt}
	goodLinks = []int{0, 1, 2, 255, 256, 258, 0x0102, 32767, 32768, 65534, 65535}
	badLinks  = []int{-1, -65535, -65536, 65536, 65537, 1 << 32, math.MinInt, math.MaxInt}
	goodSizes = []int{0, 1, 255, 256, 258, 8192, 8193, 65535, 65536, 70000, 1 << 24, 0x01020304, most - 1, most}
	badSizes  = []int{-1, -258, -most - 1, most + 1, most + 2, 1<<32 - 1, 1 << 32, 1<<32 + 1, math.MinInt, math.MaxInt}
	goodInos  = goodSizes[1:]
	badInos   = append([]int{0}, badSizes...)
	badAddrs  = []int{-1, -2, -2047, 2048, 2049, 4096, 65535, 65536, 65537, 1<<32 + 5, math.MinInt, math.MaxInt}
)

// names are valid ones for an entry: the chapter asks for nothing but their length.
var names = []string{"a", "note", ".", "..", "a/b", "\x00", "\xff\x80", "\x01\x00\x00", "20 bytes are a name", "é\u20ac", "12345678901234567890", strings.Repeat("\x00", 20)}

// inodes, entries and extents are all values of which each part is one of a list.
func inodes(kinds, links, sizes []int) []api.Inode {
	var l []api.Inode
	for _, kind := range kinds {
		for _, n := range links {
			for _, size := range sizes {
				l = append(l, api.Inode{Kind: kind, Links: n, Size: size})
			}
		}
	}
	return l
}

func entries(names []string, inos, kinds []int) []api.Entry {
	var l []api.Entry
	for _, name := range names {
		for _, ino := range inos {
			for _, kind := range kinds {
				l = append(l, api.Entry{Name: name, Ino: ino, Kind: kind})
			}
		}
	}
	return l
}

// extents are all of blocks, and of each length in an item some.
func extents() []api.Extent {
	var l []api.Extent
	for addr := 1; addr < 2048; addr++ {
		l = append(l, api.Extent{Addr: addr})
	}
	for n := 1; n <= 24; n++ {
		for _, c := range []string{"\x00", "\x01", "a", "\xff"} {
			l = append(l, api.Extent{Inline: []byte(strings.Repeat(c, n))})
		}
		l = append(l, api.Extent{Inline: []byte(mixed(n))})
	}
	return l
}

// mixed is a text of n bytes of all values; the first ones are no noughts.
func mixed(n int) string {
	b := make([]byte, n)
	for i := range b {
		b[i] = byte(i*7 + 1)
	}
	return string(b)
}

// laidInode, laidEntry and laidExtent are the chapter's encodings word by word, whether the numbers may be or not.
func laidInode(i api.Inode) string {
	b := binary.BigEndian.AppendUint16([]byte{byte(i.Kind)}, uint16(i.Links))
	return string(binary.BigEndian.AppendUint32(b, uint32(i.Size)))
}

func laidEntry(e api.Entry) string {
	b := append([]byte{byte(len(e.Name))}, e.Name...)
	return string(append(binary.BigEndian.AppendUint32(b, uint32(e.Ino)), byte(e.Kind)))
}

func laidExtent(x api.Extent) string {
	if x.Addr != 0 {
		return string(binary.BigEndian.AppendUint16([]byte{1}, uint16(x.Addr)))
	}
	return "\x00" + string(x.Inline)
}

// inodeOf, entryOf and extentOf read bytes as the chapter tells it, and tell whether they are a valid value's.
func inodeOf(s string) (api.Inode, bool) {
	if len(s) != 7 {
		return api.Inode{}, false
	}
	i := api.Inode{Kind: int(s[0]), Links: int(s[1])<<8 | int(s[2]), Size: int(binary.BigEndian.Uint32([]byte(s[3:])))}
	if i.Kind != 1 && i.Kind != 2 || i.Size > most {
		return api.Inode{}, false
	}
	return i, true
}

func entryOf(s string) (api.Entry, bool) {
	if len(s) < 7 || s[0] < 1 || s[0] > 20 || len(s) != int(s[0])+6 {
		return api.Entry{}, false
	}
	n := int(s[0])
	e := api.Entry{Name: s[1 : 1+n], Ino: int(binary.BigEndian.Uint32([]byte(s[1+n:]))), Kind: int(s[5+n])}
	if e.Ino < 1 || e.Ino > most || e.Kind != 1 && e.Kind != 2 {
		return api.Entry{}, false
	}
	return e, true
}

func extentOf(s string) (api.Extent, bool) {
	switch {
	case len(s) == 3 && s[0] == 1:
		addr := int(s[1])<<8 | int(s[2])
		return api.Extent{Addr: addr}, addr >= 1 && addr <= 2047
	case len(s) >= 2 && len(s) <= 25 && s[0] == 0:
		return api.Extent{Inline: []byte(s[1:])}, true
	}
	return api.Extent{}, false
}

// codec is a Put and its Take, with what the chapter makes of them.
type codec[V any] struct {
	put  func(V) ([]byte, api.Errno)
	take func([]byte) (V, api.Errno)
	laid func(V) string         // the encoding
	of   func(string) (V, bool) // what has it
	same func(V, V) bool
}

var (
	anInode  = codec[api.Inode]{inode.Put, inode.Take, laidInode, inodeOf, alike[api.Inode]}
	anEntry  = codec[api.Entry]{inode.PutEntry, inode.TakeEntry, laidEntry, entryOf, alike[api.Entry]}
	anExtent = codec[api.Extent]{inode.PutExtent, inode.TakeExtent, laidExtent, extentOf, alikeExtents}
)

func alike[V comparable](x, y V) bool { return x == y }

// alikeExtents takes an empty list for none.
func alikeExtents(x, y api.Extent) bool {
	return x.Addr == y.Addr && string(x.Inline) == string(y.Inline)
}

// puts asks Put for bytes, and Take of them for the value.
func (c codec[V]) puts(t *testing.T, v V, want string) {
	t.Helper()
	if b, e := c.put(v); string(b) != want || e != api.OK {
		t.Fatalf("%+v: %x, %d, not %x", v, b, e, want)
	}
	if got, e := c.take([]byte(want)); !c.same(got, v) || e != api.OK {
		t.Fatalf("%x: %+v, %d, not %+v", want, got, e, v)
	}
}

// refuses asks Put for ErrArg, and for nothing beside it.
func (c codec[V]) refuses(t *testing.T, values ...V) {
	t.Helper()
	for _, v := range values {
		if b, e := c.put(v); b != nil || e != api.ErrArg {
			t.Fatalf("%+v: %x, %d", v, b, e)
		}
	}
}

// takes holds Take against the chapter, for any bytes: the value, or ErrCorrupt and nothing beside it.
func (c codec[V]) takes(t *testing.T, s string) {
	t.Helper()
	want, is := c.of(s)
	if !is {
		c.corrupt(t, "nothing", s)
	} else if v, e := c.take([]byte(s)); !c.same(v, want) || e != api.OK {
		t.Fatalf("%x: %+v, %d, not %+v", s, v, e, want)
	}
}

// corrupt asks Take for ErrCorrupt, and for nothing beside it.
func (c codec[V]) corrupt(t *testing.T, what string, l ...string) {
	t.Helper()
	var none V
	for _, s := range l {
		if v, e := c.take([]byte(s)); !c.same(v, none) || e != api.ErrCorrupt {
			t.Fatalf("%s: %x: %+v, %d", what, s, v, e)
		}
	}
}

// goRound asks of values that they are put as the chapter lays them, and read as they were.
func (c codec[V]) goRound(t *testing.T, values ...V) {
	t.Helper()
	for _, v := range values {
		c.puts(t, v, c.laid(v))
	}
}

// takesLike holds Take against the chapter for bytes that are like those of a value: each byte with each value, each part, and with more behind or ahead.
func (c codec[V]) takesLike(t *testing.T, values ...V) {
	t.Helper()
	for _, v := range values {
		s := c.laid(v)
		for at := range s {
			for x := range 256 {
				c.takes(t, s[:at]+string([]byte{byte(x)})+s[at+1:])
			}
			for _, part := range []string{s[:at], s[at+1:], s[:at] + s[at+1:], s[:at] + "\x00" + s[at:]} {
				c.takes(t, part)
			}
		}
		for _, more := range []string{"", "\x00", "\x01", "\xff", "\x00\x00", s} {
			c.takes(t, s+more)
			c.takes(t, more+s)
		}
	}
}

// apart asks for another encoding of each value; some may be there twice.
func (c codec[V]) apart(t *testing.T, values ...V) {
	t.Helper()
	of := map[string]V{}
	for _, v := range values {
		b, _ := c.put(v)
		if other, is := of[string(b)]; is && !c.same(other, v) {
			t.Fatalf("%x is of %+v and of %+v", b, v, other)
		}
		of[string(b)] = v
	}
}

// again asks, of bytes that may be a value's, that the value is put as these very bytes.
func (c codec[V]) again(t *testing.T, s string) {
	t.Helper()
	c.takes(t, s)
	if v, e := c.take([]byte(s)); e == api.OK {
		c.puts(t, v, s)
	}
}

// cut asks for ErrCorrupt of what ends too early, with the rest in the spare capacity.
func (c codec[V]) cut(t *testing.T, v V) {
	t.Helper()
	s := c.laid(v)
	for n := range s {
		if _, e := c.take([]byte(s)[:n]); e != api.ErrCorrupt {
			t.Fatalf("%d bytes of %x: %d", n, s, e)
		}
	}
}

// P13.1

func TestPutAndTakeOfInodes(t *testing.T) {
	anInode.puts(t, api.Inode{Kind: 1, Links: 2, Size: 258}, "\x01\x00\x02\x00\x00\x01\x02") // the example
	anInode.puts(t, api.Inode{Kind: api.Dir, Links: 1, Size: 70000}, "\x02\x00\x01\x00\x01\x11\x70")
	anInode.puts(t, api.Inode{Kind: 2, Links: 0x0304, Size: 0x05060708}, "\x02\x03\x04\x05\x06\x07\x08")
	anInode.puts(t, api.Inode{Kind: api.File}, "\x01\x00\x00\x00\x00\x00\x00")
	anInode.puts(t, api.Inode{Kind: 1, Links: 65535}, "\x01\xff\xff\x00\x00\x00\x00")
	anInode.puts(t, api.Inode{Kind: 1, Size: most}, "\x01\x00\x00\x7f\xff\xff\xff")
	anInode.puts(t, api.Inode{Kind: 2, Links: 65535, Size: most}, "\x02\xff\xff\x7f\xff\xff\xff")
}

func TestInodesAreAsTheChapterLaysThem(t *testing.T) {
	anInode.goRound(t, inodes(goodKinds, goodLinks, goodSizes)...)
	for links := range 65536 {
		anInode.goRound(t, api.Inode{Kind: 1 + links%2, Links: links, Size: 65535 - links})
	}
}

func TestPutOfInodesThatMayNotBe(t *testing.T) {
	anInode.refuses(t, api.Inode{}, api.Inode{Kind: api.Pipe}, api.Inode{Kind: 1, Links: 65536}, api.Inode{Kind: 1, Size: most + 1})
	anInode.refuses(t, inodes(badKinds, goodLinks, goodSizes)...)
	anInode.refuses(t, inodes(goodKinds, badLinks, goodSizes)...)
	anInode.refuses(t, inodes(goodKinds, goodLinks, badSizes)...)
	anInode.refuses(t, inodes(badKinds, badLinks, badSizes)...)
}

func TestTakeOfInodesThatMayNotBe(t *testing.T) {
	anInode.corrupt(t, "a kind", "\x00\x00\x01\x00\x00\x00\x00", "\x03\x00\x01\x00\x00\x00\x00", "\x81\x00\x01\x00\x00\x00\x00", "\xff\x00\x01\x00\x00\x00\x00")
	anInode.corrupt(t, "a size", "\x01\x00\x01\x80\x00\x00\x00", "\x01\x00\x01\x80\x00\x00\x01", "\x02\x00\x01\xff\xff\xff\xff")
	anInode.corrupt(t, "a length", "", "\x01", "\x01\x00\x01\x00\x00\x00", "\x01\x00\x01\x00\x00\x00\x00\x00", "\x01\x00\x01\x00\x00\x00\x00\x01")
	anInode.corrupt(t, "many", strings.Repeat("\x00", 7), strings.Repeat("\x01", 6), strings.Repeat("\x01", 8), strings.Repeat("\x01", 14), strings.Repeat("\x01", 65536))
	for _, i := range slices.Concat(inodes([]int{0, 3, 4, 127, 128, 129, 130, 255}, goodLinks, goodSizes), inodes(goodKinds, goodLinks, []int{most + 1, most + 2, 1<<32 - 1})) {
		anInode.corrupt(t, "a number", laidInode(i))
	}
}

func TestTakeOfWhatIsLikeAnInode(t *testing.T) {
	anInode.takesLike(t, inodes(goodKinds, []int{0, 1, 258, 65535}, []int{0, 258, 0x01020304, most})...)
}

// P13.2

func TestPutAndTakeOfEntries(t *testing.T) {
	anEntry.puts(t, api.Entry{Name: "a", Ino: 5, Kind: 2}, "\x01a\x00\x00\x00\x05\x02") // the example
	anEntry.puts(t, api.Entry{Name: "note", Ino: 300, Kind: api.File}, "\x04note\x00\x00\x01\x2c\x01")
	anEntry.puts(t, api.Entry{Name: "ab", Ino: 0x01020304, Kind: api.Dir}, "\x02ab\x01\x02\x03\x04\x02")
	anEntry.puts(t, api.Entry{Name: "12345678901234567890", Ino: most, Kind: 1}, "\x1412345678901234567890\x7f\xff\xff\xff\x01")
	anEntry.puts(t, api.Entry{Name: "\x00", Ino: 1, Kind: 1}, "\x01\x00\x00\x00\x00\x01\x01")
}

func TestEntriesAreAsTheChapterLaysThem(t *testing.T) {
	anEntry.goRound(t, entries(names, goodInos, goodKinds)...)
	for n := 1; n <= 20; n++ {
		for c := range 256 {
			anEntry.goRound(t, api.Entry{Name: strings.Repeat("?", n-1) + string([]byte{byte(c)}), Ino: 1 + c, Kind: 1 + n%2})
		}
	}
}

func TestPutOfEntriesThatMayNotBe(t *testing.T) {
	anEntry.refuses(t, api.Entry{}, api.Entry{Ino: 1, Kind: 1}, api.Entry{Name: "a", Kind: 1}, api.Entry{Name: "a", Ino: 1}, api.Entry{Name: "a", Ino: 1, Kind: api.Pipe})
	for _, n := range []int{0, 21, 22, 255, 256, 257, 276, 512 + 5, 65536, 65536 + 5} {
		anEntry.refuses(t, entries([]string{strings.Repeat("a", n)}, []int{0, 1, 5}, []int{0, 1, 2})...)
	}
	anEntry.refuses(t, api.Entry{Name: strings.Repeat("é", 10) + "a", Ino: 1, Kind: 1}) // 11 runes, and 21 bytes
	anEntry.refuses(t, entries(names, badInos, goodKinds)...)
	anEntry.refuses(t, entries(names, goodInos, badKinds)...)
	anEntry.refuses(t, entries(names, badInos, badKinds)...)
}

func TestTakeOfEntriesThatMayNotBe(t *testing.T) {
	anEntry.corrupt(t, "no name", "", "\x00", "\x00\x00\x00\x00\x05\x02")
	anEntry.corrupt(t, "a long name", laidEntry(api.Entry{Name: strings.Repeat("a", 21), Ino: 5, Kind: 2}), laidEntry(api.Entry{Name: strings.Repeat("a", 255), Ino: 5, Kind: 2}))
	anEntry.corrupt(t, "no ino", "\x01a\x00\x00\x00\x00\x02", "\x01a\x80\x00\x00\x00\x02", "\x01a\x80\x00\x00\x05\x02", "\x01a\xff\xff\xff\xff\x02")
	anEntry.corrupt(t, "no kind", "\x01a\x00\x00\x00\x05\x00", "\x01a\x00\x00\x00\x05\x03", "\x01a\x00\x00\x00\x05\x81", "\x01a\x00\x00\x00\x05\xff")
	anEntry.corrupt(t, "a length", "\x01", "\x01a", "\x01a\x00\x00\x00\x05", "\x01a\x00\x00\x00\x05\x02\x00", "\x02a\x00\x00\x00\x05\x02", "\x01a\x00\x00\x05\x02", "\x14a", "\xff")
	for n := range 300 {
		if n < 1 || n > 20 {
			anEntry.corrupt(t, "a name", laidEntry(api.Entry{Name: strings.Repeat("a", n), Ino: 5, Kind: 2}))
		}
	}
}

func TestTakeOfWhatIsLikeAnEntry(t *testing.T) {
	anEntry.takesLike(t, entries(names, []int{1, 258, 0x01020304, most}, goodKinds)...)
	for n := range 30 { // each length that is told, of each that there is
		for told := range 256 {
			anEntry.takes(t, string([]byte{byte(told)})+strings.Repeat("\x01", n))
			anEntry.takes(t, string([]byte{byte(told)})+strings.Repeat("\x02", n))
		}
	}
}

// P13.3

func TestPutAndTakeOfExtents(t *testing.T) {
	anExtent.puts(t, api.Extent{Addr: 258}, "\x01\x01\x02") // the example
	anExtent.puts(t, api.Extent{Addr: 1}, "\x01\x00\x01")
	anExtent.puts(t, api.Extent{Addr: 2047}, "\x01\x07\xff")
	anExtent.puts(t, api.Extent{Addr: 5, Inline: []byte{}}, "\x01\x00\x05")
	anExtent.puts(t, api.Extent{Inline: []byte("a")}, "\x00a")
	anExtent.puts(t, api.Extent{Inline: []byte{0}}, "\x00\x00")
	anExtent.puts(t, api.Extent{Inline: []byte{1, 2}}, "\x00\x01\x02") // as long as one in a block
	anExtent.puts(t, api.Extent{Inline: []byte("123456789012345678901234")}, "\x00123456789012345678901234")
	anExtent.goRound(t, extents()...)
}

func TestPutOfExtentsThatMayNotBe(t *testing.T) {
	for _, inline := range [][]byte{nil, {}, make([]byte, 0, 9)} {
		anExtent.refuses(t, api.Extent{Inline: inline})
		for _, addr := range badAddrs {
			anExtent.refuses(t, api.Extent{Addr: addr, Inline: inline})
		}
	}
	for _, n := range []int{25, 26, 128, 255, 256, 257, 65536 + 1} {
		anExtent.refuses(t, api.Extent{Inline: make([]byte, n)})
	}
	for n := 1; n <= 26; n++ {
		for _, addr := range slices.Concat([]int{1, 2, 255, 256, 2047}, badAddrs) {
			anExtent.refuses(t, api.Extent{Addr: addr, Inline: make([]byte, n)})
		}
	}
}

func TestTakeOfExtentsThatMayNotBe(t *testing.T) {
	anExtent.corrupt(t, "nothing", "", "\x00", "\x01")
	anExtent.corrupt(t, "an address", "\x01\x00\x00", "\x01\x08\x00", "\x01\x08\x01", "\x01\x80\x05", "\x01\xff\xff")
	anExtent.corrupt(t, "an address' length", "\x01\x05", "\x01\x00\x00\x05", "\x01\x00\x05\x00", "\x01"+strings.Repeat("\x01", 24))
	anExtent.corrupt(t, "a form", "\x02a", "\x02\x00\x05", "\x80a", "\xff", "\xff\x00\x05", "a")
	anExtent.corrupt(t, "many bytes", "\x00"+mixed(25), "\x00"+mixed(26), "\x00"+mixed(128), "\x00"+mixed(256), "\x00"+mixed(257), "\x00"+mixed(65536+1))
}

func TestTakeOfWhatIsLikeAnExtent(t *testing.T) {
	for form := range 256 {
		anExtent.takes(t, string([]byte{byte(form)}))
		for n := range 30 {
			anExtent.takes(t, string([]byte{byte(form)})+strings.Repeat("\x01", n))
			anExtent.takes(t, string([]byte{byte(form)})+strings.Repeat("\x00", n))
		}
	}
	for _, form := range []byte{0, 1, 2, 255} {
		for addr := range 65536 {
			anExtent.takes(t, string(binary.BigEndian.AppendUint16([]byte{form}, uint16(addr))))
		}
	}
	anExtent.takesLike(t, api.Extent{Addr: 1}, api.Extent{Addr: 258}, api.Extent{Addr: 2047})
	anExtent.takesLike(t, api.Extent{Inline: []byte("a")}, api.Extent{Inline: []byte{1, 2}}, api.Extent{Inline: []byte(mixed(24))})
}

// P13.4

func TestKeys(t *testing.T) {
	for _, x := range []struct {
		name      string
		got, want api.Key
	}{
		{"Key", inode.Key(5), api.Key{Obj: 5, Kind: 1}},
		{"EntryKey", inode.EntryKey(5, 6), api.Key{Obj: 5, Kind: 2, Off: 6}},
		{"DataKey", inode.DataKey(5, 6), api.Key{Obj: 5, Kind: 3, Off: 6}},
		{"OrphanKey", inode.OrphanKey(5), api.Key{Kind: 4, Off: 5}},
	} {
		if x.got != x.want {
			t.Errorf("%s: %+v, not %+v", x.name, x.got, x.want)
		}
	}
	numbers := []int{math.MinInt, -1, 0, 1, 2, 64, 255, 256, 65536, most - 1, most, most + 1, math.MaxInt}
	for _, ino := range numbers { // keys are made of whatever they are asked of
		if k := inode.Key(ino); k != (api.Key{Obj: ino, Kind: api.ItemInode}) {
			t.Errorf("Key(%d): %+v", ino, k)
		}
		if k := inode.OrphanKey(ino); k != (api.Key{Kind: api.ItemOrphan, Off: ino}) {
			t.Errorf("OrphanKey(%d): %+v", ino, k)
		}
		for _, n := range numbers {
			if k := inode.EntryKey(ino, n); k != (api.Key{Obj: ino, Kind: api.ItemEntry, Off: n}) {
				t.Errorf("EntryKey(%d, %d): %+v", ino, n, k)
			}
			if k := inode.DataKey(ino, n); k != (api.Key{Obj: ino, Kind: api.ItemData, Off: n}) {
				t.Errorf("DataKey(%d, %d): %+v", ino, n, k)
			}
		}
	}
}

// P13.5

func TestOneEncodingIsOfOneValue(t *testing.T) {
	anInode.apart(t, inodes(goodKinds, goodLinks, goodSizes)...)
	like := []string{"a\x00", "a\x00\x00", "a\x00\x00\x00\x01", "a\x00\x00\x00\x01\x01"} // which go on as a number would
	anEntry.apart(t, entries(slices.Concat(names, like), goodInos, goodKinds)...)
	anExtent.apart(t, append(extents(), api.Extent{Inline: []byte("\x01\x00\x05")}, api.Extent{Inline: []byte("\x00\x05")})...)
}

func TestAnyBytes(t *testing.T) {
	r := rand.New(rand.NewPCG(13, 5))
	for range 200000 {
		b := make([]byte, r.IntN(32))
		for i := range b {
			b[i] = byte(r.IntN(256) >> r.IntN(9)) // small ones are the likelier to be something
		}
		anInode.again(t, string(b))
		anEntry.again(t, string(b))
		anExtent.again(t, string(b))
	}
}

// Chapter 6 tells which blocks a leaf names: they must be those of the extents, and no others.
func TestLeavesNameTheBlocksOfExtents(t *testing.T) {
	for _, x := range extents() {
		b, _ := inode.PutExtent(x)
		n := api.Node{Items: []api.Item{{Key: inode.DataKey(5, 0), Value: b}}}
		var want []int
		if x.Addr != 0 {
			want = []int{x.Addr}
		}
		if got := node.Kids(n); !node.May(n) || !slices.Equal(got, want) {
			t.Errorf("%+v: %v", x, got)
		}
	}
	i, _ := inode.Put(api.Inode{Kind: 1, Links: 1, Size: 8192})
	x, _ := inode.PutEntry(api.Entry{Name: "12345678901234567890", Ino: most, Kind: 1})
	n := api.Node{Items: []api.Item{{Key: inode.OrphanKey(7)}, {Key: inode.Key(1), Value: i}, {Key: inode.EntryKey(1, 0), Value: x}}}
	if !node.May(n) || len(node.Kids(n)) != 0 {
		t.Errorf("%v, %v", node.May(n), node.Kids(n))
	}
}

// R6 and R7

func TestTheSameAgain(t *testing.T) {
	put := func() string {
		i, _ := inode.Put(api.Inode{Kind: 1, Links: 2, Size: 258})
		e, _ := inode.PutEntry(api.Entry{Name: "a", Ino: 5, Kind: 2})
		x, _ := inode.PutExtent(api.Extent{Addr: 258})
		y, _ := inode.PutExtent(api.Extent{Inline: []byte("ab")})
		all := string(i) + string(e) + string(x) + string(y)
		for _, b := range [][]byte{i, e, x, y} {
			lent.Scribble(b)
		}
		return all
	}
	one := put()
	inode.Put(api.Inode{})
	inode.TakeEntry(nil)
	inode.TakeExtent([]byte{1, 8, 0})
	if two := put(); one != two || one != "\x01\x00\x02\x00\x00\x01\x02\x01a\x00\x00\x00\x05\x02\x01\x01\x02\x00ab" {
		t.Errorf("%x, then %x", one, two)
	}
}

func TestPutExtentLeavesWhatIsHandedIn(t *testing.T) {
	for n := range 27 {
		for _, addr := range []int{0, 5, 2048} {
			b := lent.Bytes(mixed(n))
			got, e := inode.PutExtent(api.Extent{Addr: addr, Inline: b})
			want := string(got)
			lent.Scribble(got)
			if !lent.Untouched(b, mixed(n)) {
				t.Errorf("%d bytes, %d: what was handed in became %x", n, e, b[:cap(b)])
			}
			got, _ = inode.PutExtent(api.Extent{Addr: addr, Inline: b})
			lent.Scribble(b)
			if string(got) != want {
				t.Errorf("%d bytes, %d: a change of what was handed in shows: %x", n, e, got)
			}
		}
	}
}

func TestTakeLeavesWhatIsHandedIn(t *testing.T) {
	for _, s := range []string{
		"", "\x00", "\x01", "\x00a", "\x00" + mixed(24), "\x00" + mixed(25), "\x01\x01\x02", "\x01\x08\x00",
		laidInode(api.Inode{Kind: 1, Links: 2, Size: 258}), laidInode(api.Inode{Kind: 1, Size: most + 1}),
		laidEntry(api.Entry{Name: "note", Ino: 300, Kind: 1}), laidEntry(api.Entry{Name: "note", Kind: 1}),
	} {
		b := lent.Bytes(s)
		inode.Take(b)
		x, _ := inode.TakeEntry(b)
		y, _ := inode.TakeExtent(b)
		if !lent.Untouched(b, s) {
			t.Errorf("%x became %x", s, b[:cap(b)])
		}
		name, inline := strings.Clone(x.Name), string(y.Inline)
		lent.Scribble(b)
		if x.Name != name || string(y.Inline) != inline {
			t.Errorf("%x: a change of what was handed in shows: %q, %x", s, x.Name, y.Inline)
		}
		lent.Scribble(b)
		lent.Scribble(y.Inline)
		if !lent.Untouched(b, s) {
			t.Errorf("%x: the answer shares memory with what was handed in", s)
		}
	}
}

func TestWhatIsSpareIsNotTaken(t *testing.T) {
	anInode.cut(t, api.Inode{Kind: 1, Links: 2, Size: 258})
	anEntry.cut(t, api.Entry{Name: "note", Ino: 300, Kind: 1})
	anExtent.cut(t, api.Extent{Addr: 258})
	anExtent.cut(t, api.Extent{Inline: []byte("a")})
}
