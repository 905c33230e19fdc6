package node_test

import (
	"bytes"
	"encoding/binary"
	"hash/crc32"
	"math"
	"math/rand/v2"
	"slices"
	"strings"
	"testing"

	"cambium/api"
	"cambium/lent"
	"cambium/node"
)

const most = 1<<31 - 1 // of a key's Obj and Off

// example is the chapter's.
var example = api.Node{Items: []api.Item{{Key: api.Key{Obj: 1, Kind: 2, Off: 3}, Value: []byte("ab")}}}

func at(off int) api.Key { return api.Key{Obj: 1, Kind: 3, Off: off} }

// value is one of n bytes, none of them a nought.
func value(n int) []byte {
	b := make([]byte, n)
	for i := range b {
		b[i] = byte(i*7 + 1)
	}
	return b
}

// leaf has items of the keys at(10), at(20), and so on, inner has kids of them.
func leaf(n int) api.Node {
	var l []api.Item
	for i := range n {
		l = append(l, api.Item{Key: at(10 * (i + 1)), Value: value(i * 11 % 29)})
	}
	return api.Node{Items: l}
}

func inner(level, n int) api.Node {
	var l []api.Kid
	for i := range n {
		l = append(l, api.Kid{Key: at(10 * (i + 1)), Addr: (i*1021 + 2) % 2048})
	}
	return api.Node{Level: level, Kids: l}
}

func leafOf(keys ...api.Key) api.Node {
	n := leaf(len(keys))
	for i, k := range keys {
		n.Items[i].Key = k
	}
	return n
}

func innerOf(keys ...api.Key) api.Node {
	n := inner(1, len(keys))
	for i, k := range keys {
		n.Kids[i].Key = k
	}
	return n
}

// holding is a leaf of two items, the second of which has a value of n bytes; naming an inner node of two kids, the second at an address.
func holding(n int) api.Node {
	l := leaf(2)
	l.Items[1].Value = value(n)
	return l
}

func naming(addr int) api.Node {
	n := inner(3, 2)
	n.Kids[1].Addr = addr
	return n
}

// both has items and kids.
func both(level, items, kids int) api.Node {
	return api.Node{Level: level, Items: leaf(items).Items, Kids: inner(level, kids).Kids}
}

// all are valid nodes: of each size and level, and with the edges of what is in them.
func all() []api.Node {
	greatest := api.Key{Obj: most, Kind: 255, Off: most}
	l := []api.Node{
		example,
		leafOf(api.Key{}), leafOf(greatest), leafOf(api.Key{}, greatest), innerOf(api.Key{}, greatest),
		leafOf(api.Key{Obj: 1, Kind: 9, Off: 9}, api.Key{Obj: 2}), leafOf(api.Key{Kind: 1, Off: 9}, api.Key{Kind: 2}), leafOf(at(1), at(2)),
		innerOf(api.Key{Obj: 1, Kind: 9, Off: 9}, api.Key{Obj: 2}), innerOf(api.Key{Kind: 1, Off: 9}, api.Key{Kind: 2}), innerOf(at(1), at(2)),
		holding(0), holding(1), holding(27), holding(28),
		naming(1), naming(2), naming(255), naming(256), naming(2046), naming(2047),
		{Items: []api.Item{{}}}, // a body of noughts
	}
	full := leaf(6)
	for i := range full.Items {
		full.Items[i].Value = value(28)
	}
	l = append(l, full)
	for n := 1; n <= 6; n++ {
		l = append(l, leaf(n))
	}
	for level := 1; level <= 7; level++ {
		for n := 2; n <= 12; n++ {
			l = append(l, inner(level, n))
		}
	}
	return l
}

// wrong are nodes that are not valid.
func wrong() map[string]api.Node {
	three := leaf(3)
	l := map[string]api.Node{
		"nothing":                                {},
		"a level alone":                          {Level: 1},
		"below level 0, with items":              both(-1, 3, 0),
		"below level 0, with kids":               inner(-1, 3),
		"far below level 0, with kids":           inner(math.MinInt, 3),
		"level 1, with items":                    both(1, 3, 0),
		"level 7, with items":                    both(7, 3, 0),
		"level 0, with kids":                     inner(0, 3),
		"level 8":                                inner(8, 3),
		"level 8, with items":                    both(8, 3, 0),
		"level 256":                              inner(256, 3),
		"level 257":                              inner(257, 3),
		"the greatest level":                     inner(math.MaxInt, 3),
		"7 items":                                leaf(7),
		"8 items":                                leaf(8),
		"1 kid":                                  inner(1, 1),
		"13 kids":                                inner(1, 13),
		"300 kids":                               inner(7, 300),
		"a leaf with a kid":                      both(0, 3, 1),
		"a leaf with kids":                       both(0, 3, 2),
		"an inner node with an item":             both(1, 1, 2),
		"an inner node with items":               both(1, 3, 3),
		"no items, an empty list":                {Items: []api.Item{}},
		"no items, more in the spare capacity":   {Items: three.Items[:0]},
		"a value of 29 bytes":                    holding(29),
		"a value of 255 bytes":                   holding(255),
		"a value of 256 bytes":                   holding(256),
		"a value of 65536 bytes":                 holding(65536),
		"a kid at 0":                             naming(0),
		"a kid at -1":                            naming(-1),
		"a kid at 2048":                          naming(2048),
		"a kid at 65535":                         naming(65535),
		"a kid at 65536":                         naming(65536),
		"a kid at 65537":                         naming(65537),
		"a kid far below":                        naming(math.MinInt),
		"a kid far above":                        naming(math.MaxInt),
		"a value of 29 bytes in the first item":  {Items: []api.Item{{Value: value(29)}}},
		"a kid at 0, the first":                  {Level: 1, Kids: []api.Kid{{Key: at(1)}, {Key: at(2), Addr: 1}}},
		"one key out of six that is not valid":   leafOf(at(1), at(2), at(3), at(4), at(5), at(most+1)),
		"two keys out of six that are equal":     leafOf(at(1), at(2), at(3), at(4), at(5), at(5)),
		"two keys out of six that change places": leafOf(at(1), at(2), at(4), at(3), at(5), at(6)),
	}
	for name, k := range map[string]api.Key{
		"Obj -1": {Obj: -1}, "Kind -1": {Kind: -1}, "Off -1": {Off: -1},
		"Obj above": {Obj: most + 1}, "Kind above": {Kind: 256}, "Off above": {Off: most + 1},
		"Obj whose lowest bytes may be": {Obj: 1 << 32}, "Off whose lowest bytes may be": {Off: 1 << 32},
		"ends": {Obj: math.MinInt, Kind: math.MaxInt, Off: math.MinInt},
	} {
		l["a leaf of "+name] = leafOf(k)
		last := api.Key{Obj: most, Kind: 255, Off: most}
		for i, pair := range [][]api.Key{{k, last}, {{}, k}} {
			l[name+", item "+string('0'+rune(i))] = leafOf(pair...)
			l[name+", kid "+string('0'+rune(i))] = innerOf(pair...)
		}
	}
	for name, pair := range map[string][]api.Key{
		"equal keys":       {at(5), at(5)},
		"keys of noughts":  {{}, {}},
		"falling Offs":     {at(5), at(4)},
		"falling Kinds":    {{Kind: 2}, {Kind: 1, Off: 9}},
		"falling Objs":     {{Obj: 2}, {Obj: 1, Kind: 9, Off: 9}},
		"a fall at the 3d": {at(1), at(9), at(8)},
	} {
		l["items of "+name] = leafOf(pair...)
		l["kids of "+name] = innerOf(pair...)
	}
	return l
}

// sealed is the layout of chapter 4 word by word, whether the numbers may be or not.
func sealed(kind, level, addr, count, gen int, body string) []byte {
	b := make([]byte, 256)
	b[4], b[5] = byte(kind), byte(level)
	binary.BigEndian.PutUint16(b[6:], uint16(addr))
	binary.BigEndian.PutUint16(b[8:], uint16(count))
	b[10] = byte(gen >> 32)
	binary.BigEndian.PutUint32(b[11:], uint32(gen))
	copy(b[20:], body)
	return right(b)
}

// right gives bytes the sum that belongs to them.
func right(b []byte) []byte {
	binary.BigEndian.PutUint32(b, crc32.Checksum(b[4:], crc32.MakeTable(crc32.Castagnoli)))
	return b
}

// bodyOf is this chapter's body of a node, without the padding.
func bodyOf(n api.Node) string {
	var b []byte
	lay := func(k api.Key) {
		b = binary.BigEndian.AppendUint32(b, uint32(k.Obj))
		b = append(b, byte(k.Kind))
		b = binary.BigEndian.AppendUint32(b, uint32(k.Off))
	}
	for _, x := range n.Items {
		lay(x.Key)
		b = append(b, byte(len(x.Value)))
		b = append(b, x.Value...)
	}
	for _, x := range n.Kids {
		lay(x.Key)
		b = binary.BigEndian.AppendUint16(b, uint16(x.Addr))
	}
	return string(b)
}

func kindOf(n api.Node) int {
	if n.Level == 0 {
		return 3
	}
	return 4
}

func countOf(n api.Node) int { return len(n.Items) + len(n.Kids) }

// laid is the block of a node as the chapter tells it.
func laid(n api.Node, addr, gen int) []byte {
	return sealed(kindOf(n), n.Level, addr, countOf(n), gen, bodyOf(n))
}

// decoded reads a block with a right sum as the chapter tells it, and tells whether it is a valid node's.
func decoded(b []byte, addr int) (api.Node, bool) {
	kind, level, count := int(b[4]), int(b[5]), int(binary.BigEndian.Uint16(b[8:]))
	n, body, whole := api.Node{Level: level}, b[20:], true
	next := func(n int) []byte {
		if n > len(body) {
			body, whole = nil, false
			return make([]byte, n)
		}
		x := body[:n]
		body = body[n:]
		return x
	}
	for i := 0; i < count && whole; i++ {
		x := next(9)
		k := api.Key{Obj: int(binary.BigEndian.Uint32(x)), Kind: int(x[4]), Off: int(binary.BigEndian.Uint32(x[5:]))}
		if kind == 3 {
			n.Items = append(n.Items, api.Item{Key: k, Value: next(int(next(1)[0]))})
		} else {
			n.Kids = append(n.Kids, api.Kid{Key: k, Addr: int(binary.BigEndian.Uint16(next(2)))})
		}
	}
	isOne := kind == 3 && level == 0 && count >= 1 && count <= 6 || kind == 4 && level >= 1 && level <= 7 && count >= 2 && count <= 12
	if !whole || !isOne || !sound(n) || int(binary.BigEndian.Uint16(b[6:])) != addr {
		return api.Node{}, false
	}
	for _, c := range slices.Concat(b[15:20], body) {
		if c != 0 {
			return api.Node{}, false
		}
	}
	return n, true
}

// sound tells whether what can be wrong within the items and kids of a block is right.
func sound(n api.Node) bool {
	keys := keysOf(n)
	for i, k := range keys {
		if k.Obj > most || k.Off > most || i > 0 && compared(keys[i-1], k) >= 0 {
			return false
		}
	}
	return !slices.ContainsFunc(n.Items, func(x api.Item) bool { return len(x.Value) > 28 }) &&
		!slices.ContainsFunc(n.Kids, func(x api.Kid) bool { return x.Addr < 1 || x.Addr > 2047 })
}

func keysOf(n api.Node) []api.Key {
	var l []api.Key
	for _, x := range n.Items {
		l = append(l, x.Key)
	}
	for _, x := range n.Kids {
		l = append(l, x.Key)
	}
	return l
}

func compared(a, b api.Key) int {
	return slices.Compare([]int{a.Obj, a.Kind, a.Off}, []int{b.Obj, b.Kind, b.Off})
}

func same(a, b api.Node) bool {
	return a.Level == b.Level && slices.Equal(a.Kids, b.Kids) && slices.EqualFunc(a.Items, b.Items, func(x, y api.Item) bool {
		return x.Key == y.Key && bytes.Equal(x.Value, y.Value)
	})
}

// written is a block that must come about.
func written(t *testing.T, n api.Node, addr, gen int) []byte {
	t.Helper()
	b, e := node.Write(n, addr, gen)
	if e != api.OK {
		t.Fatalf("%+v at %d: %d", n, addr, e)
	}
	return b
}

// refused asks Write for ErrArg, and for nothing beside it.
func refused(t *testing.T, what string, n api.Node, addr, gen int) {
	t.Helper()
	if b, e := node.Write(n, addr, gen); b != nil || e != api.ErrArg {
		t.Errorf("%s: Write: %d bytes, %d", what, len(b), e)
	}
}

// reads asks Read for a node.
func reads(t *testing.T, b []byte, addr int, want api.Node) {
	t.Helper()
	if n, e := node.Read(b, addr); !same(n, want) || e != api.OK {
		t.Errorf("%+v, %d, not %+v", n, e, want)
	}
}

// corrupt asks Read for ErrCorrupt, and for nothing beside it.
func corrupt(t *testing.T, what string, b []byte, addr int) {
	t.Helper()
	if n, e := node.Read(b, addr); n.Level != 0 || n.Items != nil || n.Kids != nil || e != api.ErrCorrupt {
		t.Errorf("%s: Read: %+v, %d", what, n, e)
	}
}

// P6.1

func TestWriteOfTheExample(t *testing.T) {
	b := written(t, example, 5, 7)
	const head = "\x03\x00\x00\x05\x00\x01\x00\x00\x00\x00\x07\x00\x00\x00\x00\x00"
	const body = "\x00\x00\x00\x01\x02\x00\x00\x00\x03\x02\x61\x62\x00"
	if len(b) != 256 || string(b[4:20]) != head || string(b[20:33]) != body {
		t.Errorf("%d bytes: %x", len(b), b)
	}
}

func TestWriteOfAnInnerNode(t *testing.T) {
	n := api.Node{Level: 2, Kids: []api.Kid{{Key: api.Key{Obj: 1, Kind: 2, Off: 3}, Addr: 0x0405}, {Key: api.Key{Obj: 0x06070809, Kind: 10, Off: 0x0b0c0d0e}, Addr: 7}}}
	b := written(t, n, 0x0102, 0x0304050607)
	const head = "\x04\x02\x01\x02\x00\x02\x03\x04\x05\x06\x07\x00\x00\x00\x00\x00"
	const body = "\x00\x00\x00\x01\x02\x00\x00\x00\x03\x04\x05\x06\x07\x08\x09\x0a\x0b\x0c\x0d\x0e\x00\x07\x00"
	if len(b) != 256 || string(b[4:20]) != head || string(b[20:43]) != body {
		t.Errorf("%d bytes: %x", len(b), b)
	}
}

func TestWriteIsAsTheChapterLaysIt(t *testing.T) {
	for _, n := range all() {
		for _, addr := range []int{0, 1, 77, 255, 256, 2047} {
			for _, gen := range []int{0, 1, 1 << 32, 1<<40 - 1} {
				if got, want := written(t, n, addr, gen), laid(n, addr, gen); !bytes.Equal(got, want) {
					t.Errorf("%+v at %d of %d: %x, not %x", n, addr, gen, got, want)
				}
			}
		}
	}
}

func TestMayOfWhatMayBe(t *testing.T) {
	for _, n := range all() {
		if !node.May(n) {
			t.Errorf("%+v may not be", n)
		}
		n.Items, n.Kids = append([]api.Item{}, n.Items...), append([]api.Kid{}, n.Kids...) // an empty list is as good as none
		if !node.May(n) {
			t.Errorf("%+v with an empty list may not be", n)
		}
		if b := written(t, n, 5, 7); !bytes.Equal(b, laid(n, 5, 7)) {
			t.Errorf("%+v with an empty list: %x", n, b)
		}
	}
}

func TestMayOfWhatMayNotBe(t *testing.T) {
	for name, n := range wrong() {
		if node.May(n) {
			t.Errorf("%s: may be", name)
		}
		refused(t, name, n, 5, 7)
		refused(t, name, n, 2048, -1)
	}
}

func TestMayOfEachSize(t *testing.T) {
	for level := -2; level < 11; level++ {
		for items := range 9 {
			for kids := range 16 {
				n := both(level, items, kids)
				want := level == 0 && kids == 0 && items >= 1 && items <= 6 || level >= 1 && level <= 7 && items == 0 && kids >= 2 && kids <= 12
				if got := node.May(n); got != want {
					t.Errorf("level %d, %d items, %d kids: %v", level, items, kids, got)
				}
				if !want {
					refused(t, "such a size", n, 5, 7)
				}
			}
		}
	}
}

func TestMayOfEachLength(t *testing.T) {
	for n := range 300 {
		if got := node.May(holding(n)); got != (n <= 28) {
			t.Errorf("a value of %d bytes: %v", n, got)
		}
	}
	for addr := -3; addr < 70000; addr++ {
		if got := node.May(naming(addr)); got != (addr >= 1 && addr <= 2047) {
			t.Errorf("a kid at %d: %v", addr, got)
		}
	}
}

func TestWriteOfAWrongAddrOrGen(t *testing.T) {
	addrs := []int{-1, 2048, 65535, 65536, 65541, 1 << 32, math.MinInt, math.MaxInt}
	gens := []int{-1, 1 << 40, 1<<40 + 7, math.MinInt, math.MaxInt}
	for _, n := range []api.Node{example, leaf(6), inner(1, 2), inner(7, 12)} {
		for _, addr := range addrs {
			refused(t, "such an addr", n, addr, 7)
		}
		for _, gen := range gens {
			refused(t, "such a gen", n, 5, gen)
			for _, addr := range addrs {
				refused(t, "such an addr and gen", n, addr, gen)
			}
		}
	}
}

func TestReadOfWhatTheChapterLays(t *testing.T) {
	for _, n := range all() {
		for _, addr := range []int{0, 1, 77, 255, 256, 2047} {
			for _, gen := range []int{0, 1, 1 << 32, 1<<40 - 1} { // any Gen
				reads(t, laid(n, addr, gen), addr, n)
			}
		}
	}
}

func TestReadAtAnotherAddress(t *testing.T) {
	for _, n := range []api.Node{leaf(3), inner(2, 3)} {
		for addr := -2; addr < 70000; addr++ {
			if addr != 5 {
				corrupt(t, "another address", laid(n, 5, 7), addr)
			}
		}
		for _, addr := range []int{5 + 1<<16, 5 + 1<<32, 5 - 1<<16, math.MinInt, math.MaxInt} {
			corrupt(t, "an address whose lowest bytes are the same", laid(n, 5, 7), addr)
		}
		corrupt(t, "an address that no header has", laid(n, 2048, 7), 2048)
	}
}

func TestReadOfAnotherKindOrLevel(t *testing.T) {
	for _, n := range []api.Node{leaf(3), inner(2, 3), leafOf(api.Key{}), {Items: []api.Item{{}}}} {
		for kind := range 9 {
			for level := range 12 {
				b := sealed(kind, level, 5, countOf(n), 7, bodyOf(n))
				if n.Level == 0 && kind == 3 && level == 0 || n.Level > 0 && kind == 4 && level >= 1 && level <= 7 {
					n.Level = level
					reads(t, b, 5, n)
				} else {
					corrupt(t, "another kind or level", b, 5)
				}
			}
		}
	}
}

func TestReadOfAnotherCount(t *testing.T) {
	nought := api.Node{Items: []api.Item{{}}}
	reads(t, sealed(3, 0, 5, 1, 7, ""), 5, nought)
	for _, n := range append(all(), nought) {
		for count := range 300 {
			if count != countOf(n) {
				corrupt(t, "another count", sealed(kindOf(n), n.Level, 5, count, 7, bodyOf(n)), 5)
			}
		}
		corrupt(t, "the greatest count", sealed(kindOf(n), n.Level, 5, 65535, 7, bodyOf(n)), 5)
		corrupt(t, "a count whose lowest byte is right", sealed(kindOf(n), n.Level, 5, countOf(n)+256, 7, bodyOf(n)), 5)
	}
	corrupt(t, "no body and no items", sealed(3, 0, 5, 0, 7, ""), 5)
	corrupt(t, "no body and no kids", sealed(4, 1, 5, 0, 7, ""), 5)
	for _, level := range []int{0, 1, 7} {
		corrupt(t, "nothing of either kind", sealed(3, level, 5, 0, 7, ""), 5)
		corrupt(t, "nothing of either kind", sealed(4, level, 5, 0, 7, ""), 5)
	}
}

func TestReadOfABodyThatEndsEarly(t *testing.T) {
	key := "\x00\x00\x00\x01\x02\x00\x00\x00\x03"
	rest := strings.Repeat("x", 226)
	for length := range 256 {
		b := sealed(3, 0, 5, 1, 7, key+string([]byte{byte(length)})+rest[:min(length, 226)])
		if length <= 28 {
			reads(t, b, 5, leafOfValue(rest[:length]))
		} else {
			corrupt(t, "a value that is too long, past the end or not", b, 5)
		}
	}
	for _, n := range []int{226, 225, 224, 220, 217, 216, 215} { // what is behind it is cut within a key, ahead of a length, within a value
		body := key + string([]byte{byte(n)}) + rest[:n] + (key + "\x01y")[:min(11, 226-n)]
		corrupt(t, "an item that is cut", sealed(3, 0, 5, 2, 7, body), 5)
	}
	for count := 20; count < 30; count++ { // the body has room for 23 items without a value, and for 21 kids
		corrupt(t, "as many items", sealed(3, 0, 5, count, 7, bodyOf(short(count))), 5)
		corrupt(t, "as many kids", sealed(4, 1, 5, count, 7, bodyOf(inner(1, count))), 5)
	}
}

// leafOfValue is the example with another value.
func leafOfValue(s string) api.Node {
	return api.Node{Items: []api.Item{{Key: example.Items[0].Key, Value: []byte(s)}}}
}

// short has items without values.
func short(n int) api.Node {
	l := leaf(n)
	for i := range l.Items {
		l.Items[i].Value = nil
	}
	return l
}

func TestReadOfNoughtsThatAreNone(t *testing.T) {
	for _, n := range all() {
		whole := laid(n, 5, 7)
		behind := 20 + len(bodyOf(n))
		for i := range 256 {
			if i >= 15 && i < 20 || i >= behind {
				for _, c := range []byte{1, 128, 255} {
					b := bytes.Clone(whole)
					b[i] = c
					corrupt(t, "a nought that is none", right(b), 5)
				}
			}
		}
	}
}

// What of a node that is not valid a block can hold at all.
func TestReadOfWhatMayNotBe(t *testing.T) {
	for name, n := range map[string]api.Node{
		"7 items":             short(7),
		"23 items":            short(23),
		"1 kid":               inner(1, 1),
		"13 kids":             inner(1, 13),
		"21 kids":             inner(7, 21),
		"level 8":             inner(8, 3),
		"a value of 29 bytes": holding(29),
		"a value of 99 bytes": holding(99),
		"a kid at 0":          naming(0),
		"a kid at 2048":       naming(2048),
		"a kid at 65535":      naming(65535),
		"an item's Obj":       leafOf(api.Key{Obj: most + 1}),
		"an item's Off":       leafOf(api.Key{Off: most + 1}),
		"a 2d item's Obj":     leafOf(at(1), api.Key{Obj: 1<<32 - 1}),
		"a 2d item's Off":     leafOf(at(1), at(1<<32-1)),
		"a kid's Obj":         innerOf(at(1), api.Key{Obj: most + 1}),
		"a kid's Off":         innerOf(at(1), at(most+1)),
		"equal items":         leafOf(at(1), at(1)),
		"equal noughts":       leafOf(api.Key{}, api.Key{}),
		"equal kids":          innerOf(at(1), at(1)),
		"falling items":       leafOf(at(2), at(1)),
		"items that fall 5th": leafOf(at(1), at(2), at(3), at(5), at(4)),
		"falling kids":        innerOf(at(2), at(1)),
		"kids whose Obj fall": innerOf(api.Key{Obj: 2}, api.Key{Obj: 1, Kind: 9, Off: 9}),
	} {
		corrupt(t, name, laid(n, 5, 7), 5)
	}
}

func TestReadOfAnotherLength(t *testing.T) {
	for _, n := range []api.Node{leaf(6), inner(3, 12), example} {
		whole := laid(n, 5, 7)
		for i := range 256 {
			corrupt(t, "a part", bytes.Clone(whole[:i]), 5)
		}
		corrupt(t, "255 bytes with the last one in the spare capacity", whole[:255], 5)
		corrupt(t, "a byte more", append(bytes.Clone(whole), 0), 5)
		corrupt(t, "a byte ahead", append([]byte{0}, whole...), 5)
		corrupt(t, "two of them", slices.Concat(whole, whole), 5)
		corrupt(t, "a right sum of 257 bytes", right(append(bytes.Clone(whole), 0)), 5)
		corrupt(t, "a right sum of 255 bytes", right(bytes.Clone(whole[:255])), 5)
	}
	for addr := range 2 {
		corrupt(t, "none", nil, addr)
		corrupt(t, "an empty one", []byte{}, addr)
		corrupt(t, "noughts", make([]byte, 256), addr)
		corrupt(t, "noughts with a right sum", right(make([]byte, 256)), addr)
		corrupt(t, "times 255", bytes.Repeat([]byte{255}, 256), addr)
	}
}

func TestReadOfATurnedByte(t *testing.T) {
	for _, n := range []api.Node{example, leaf(6), inner(1, 2), inner(7, 12)} {
		b := laid(n, 5, 7)
		for i := range b {
			for mask := 1; mask < 256; mask++ {
				b[i] ^= byte(mask)
				corrupt(t, "a byte turned", b, 5)
				b[i] ^= byte(mask)
			}
		}
		reads(t, b, 5, n)
	}
}

// agrees holds Read of a block with a right sum against the chapter's words, and tells whether it is a node's.
func agrees(t *testing.T, b []byte, addr int) bool {
	t.Helper()
	want, is := decoded(b, addr)
	if is {
		reads(t, b, addr, want)
		if gen := int(b[10])<<32 | int(binary.BigEndian.Uint32(b[11:])); !bytes.Equal(written(t, want, addr, gen), b) {
			t.Errorf("%x is not what is written of %+v", b, want)
		}
	} else {
		corrupt(t, "what the chapter says is none", b, addr)
	}
	return is
}

func TestReadOfEachByte(t *testing.T) {
	for _, n := range []api.Node{example, leaf(3), leaf(6), inner(1, 2), inner(7, 12), short(2), {Items: []api.Item{{}}}} {
		b := laid(n, 5, 7)
		for i := 4; i < 256; i++ {
			was := b[i]
			for c := range 256 {
				b[i] = byte(c)
				agrees(t, right(b), 5)
			}
			b[i] = was
		}
	}
}

func TestReadOfWhateverBody(t *testing.T) {
	r := rand.New(rand.NewPCG(6, 1))
	few := []byte{0, 1, 2, 3, 28, 29, 127, 128, 255}
	is := 0
	for range 60000 {
		b := make([]byte, 256)
		b[4], b[5], b[7], b[9] = byte(3+r.IntN(2)), byte(r.IntN(2)), 5, byte(1+r.IntN(3))
		for range r.IntN(9) {
			b[20+r.IntN(48)] = few[r.IntN(len(few))]
		}
		if agrees(t, right(b), 5) {
			is++
		}
	}
	if is < 300 {
		t.Errorf("%d are nodes", is)
	}
}

// P6.2

// sought is what the chapter's words come to: at which index, and whether its key is k.
func sought(n api.Node, k api.Key) (int, bool) {
	i, keys := 0, keysOf(n)
	if n.Level == 0 {
		i = len(keys)
		for j := len(keys) - 1; j >= 0; j-- {
			if compared(keys[j], k) >= 0 {
				i = j
			}
		}
	} else {
		for j := range keys {
			if compared(keys[j], k) <= 0 {
				i = j
			}
		}
	}
	return i, i < len(keys) && compared(keys[i], k) == 0
}

func TestSeekOfTheExample(t *testing.T) {
	if i, is := node.Seek(example, api.Key{Obj: 1, Kind: 2, Off: 3}); i != 0 || !is {
		t.Error(i, is)
	}
	if i, is := node.Seek(example, api.Key{Obj: 1, Kind: 2, Off: 4}); i != 1 || is {
		t.Error(i, is)
	}
}

func TestSeek(t *testing.T) {
	for _, x := range []struct {
		n   api.Node
		k   api.Key
		i   int
		yes bool
	}{
		{leaf(3), at(9), 0, false},
		{leaf(3), at(10), 0, true},
		{leaf(3), at(11), 1, false},
		{leaf(3), at(19), 1, false},
		{leaf(3), at(20), 1, true},
		{leaf(3), at(29), 2, false},
		{leaf(3), at(30), 2, true},
		{leaf(3), at(31), 3, false},
		{leaf(3), api.Key{}, 0, false},
		{leaf(3), api.Key{Obj: 1, Kind: 2, Off: most}, 0, false},
		{leaf(3), api.Key{Obj: 1, Kind: 4}, 3, false},
		{leaf(3), api.Key{Obj: 2}, 3, false},
		{leaf(3), api.Key{Obj: -1}, 0, false},
		{leaf(3), api.Key{Obj: math.MaxInt, Kind: math.MaxInt, Off: math.MaxInt}, 3, false},
		{inner(2, 3), at(9), 0, false},
		{inner(2, 3), at(10), 0, true},
		{inner(2, 3), at(11), 0, false},
		{inner(2, 3), at(19), 0, false},
		{inner(2, 3), at(20), 1, true},
		{inner(2, 3), at(29), 1, false},
		{inner(2, 3), at(30), 2, true},
		{inner(2, 3), at(31), 2, false},
		{inner(2, 3), api.Key{}, 0, false},
		{inner(2, 3), api.Key{Obj: 1, Kind: 2, Off: most}, 0, false},
		{inner(2, 3), api.Key{Obj: 1, Kind: 4}, 2, false},
		{inner(2, 3), api.Key{Obj: 2}, 2, false},
		{inner(2, 3), api.Key{Obj: -1}, 0, false},
		{inner(2, 3), api.Key{Obj: math.MaxInt, Kind: math.MaxInt, Off: math.MaxInt}, 2, false},
	} {
		if i, is := node.Seek(x.n, x.k); i != x.i || is != x.yes {
			t.Errorf("%+v on level %d: %d, %v, not %d, %v", x.k, x.n.Level, i, is, x.i, x.yes)
		}
	}
}

// around are a key, and what is a little ahead of and behind it.
func around(k api.Key) []api.Key {
	var l []api.Key
	for _, d := range []api.Key{{}, {Obj: 1}, {Obj: -1}, {Kind: 1}, {Kind: -1}, {Off: 1}, {Off: -1}, {Obj: 1, Kind: -1, Off: -1}, {Kind: 1, Off: -1}, {Obj: -1, Kind: 1, Off: 1}, {Kind: -1, Off: 1}} {
		l = append(l, api.Key{Obj: k.Obj + d.Obj, Kind: k.Kind + d.Kind, Off: k.Off + d.Off})
	}
	return l
}

func TestSeekGoesByTheChapter(t *testing.T) {
	for _, n := range all() {
		for _, one := range append(keysOf(n), api.Key{}, api.Key{Obj: math.MinInt}, api.Key{Obj: math.MaxInt}, api.Key{Obj: most, Kind: 255, Off: most}) {
			for _, k := range around(one) {
				i, is := node.Seek(n, k)
				if j, yes := sought(n, k); i != j || is != yes {
					t.Errorf("%+v in %+v: %d, %v, not %d, %v", k, n, i, is, j, yes)
				}
			}
		}
	}
}

// The words of Seek hold whether the keys rise or not.
func TestSeekAmongKeysThatDoNotRise(t *testing.T) {
	for _, keys := range [][]api.Key{{}, {at(5)}, {at(5), at(5)}, {at(7), at(5)}, {at(5), at(9), at(5), at(7)}, {at(9), at(2), at(8), at(1), at(8), at(3), at(9)}} {
		for _, n := range []api.Node{leafOf(keys...), innerOf(keys...)} {
			for off := range 12 {
				i, is := node.Seek(n, at(off))
				if j, yes := sought(n, at(off)); i != j || is != yes {
					t.Errorf("%d in %+v: %d, %v, not %d, %v", off, n, i, is, j, yes)
				}
			}
		}
	}
}

func TestSeekWhereThereIsNone(t *testing.T) {
	for _, n := range []api.Node{{}, {Level: 1}, {Level: 7}, {Items: []api.Item{}}, {Level: 1, Kids: []api.Kid{}}} {
		for _, k := range []api.Key{{}, at(5), {Obj: -1}} {
			if i, is := node.Seek(n, k); i != 0 || is {
				t.Errorf("%+v: %d, %v", n, i, is)
			}
		}
		if k := node.Least(n); k != (api.Key{}) {
			t.Errorf("%+v: %+v", n, k)
		}
		if l := node.Kids(n); len(l) != 0 {
			t.Errorf("%+v: %d", n, l)
		}
	}
}

func TestLeast(t *testing.T) {
	for _, n := range all() {
		if got, want := node.Least(n), keysOf(n)[0]; got != want {
			t.Errorf("%+v: %+v", n, got)
		}
	}
	if k := node.Least(leafOf(at(7), at(5))); k != at(7) {
		t.Errorf("the first item's: %+v", k)
	}
	if k := node.Least(innerOf(at(7), at(5))); k != at(7) {
		t.Errorf("the first kid's: %+v", k)
	}
}

func TestKidsOfInnerNodes(t *testing.T) {
	if l := node.Kids(inner(2, 5)); !slices.Equal(l, []int{2, 1023, 2044, 1017, 2038}) {
		t.Errorf("%d", l)
	}
	for level := 1; level <= 7; level++ {
		for n := 2; n <= 12; n++ {
			var want []int
			x := inner(level, n)
			for _, kid := range x.Kids {
				want = append(want, kid.Addr)
			}
			if l := node.Kids(x); !slices.Equal(l, want) {
				t.Errorf("%d kids on level %d: %d", n, level, l)
			}
		}
	}
	twice := inner(1, 2)
	twice.Kids[1].Addr = twice.Kids[0].Addr
	if l := node.Kids(twice); !slices.Equal(l, []int{2, 2}) {
		t.Errorf("one address twice: %d", l)
	}
}

func TestKidsOfLeaves(t *testing.T) {
	for _, x := range []struct {
		kind  int
		value string
		want  []int
	}{
		{3, "\x01\x02\x03", []int{0x0203}},
		{3, "\x01\x00\x00", []int{0}},
		{3, "\x01\x00\x01", []int{1}},
		{3, "\x01\x07\xff", []int{2047}},
		{3, "\x01\xff\xff", []int{65535}},
		{3, "\x00\x02\x03", nil},
		{3, "\x02\x02\x03", nil},
		{3, "\xff\x02\x03", nil},
		{3, "", nil},
		{3, "\x01", nil},
		{3, "\x01\x02", nil},
		{3, "\x01\x02\x03\x04", nil},
		{3, "\x01\x02\x03\x01\x02\x03", nil},
		{3, "\x00\x01\x02\x03", nil},
		{0, "\x01\x02\x03", nil},
		{1, "\x01\x02\x03", nil},
		{2, "\x01\x02\x03", nil},
		{4, "\x01\x02\x03", nil},
		{255, "\x01\x02\x03", nil},
	} {
		n := api.Node{Items: []api.Item{{Key: api.Key{Obj: 1, Kind: x.kind, Off: 3}, Value: []byte(x.value)}}}
		if l := node.Kids(n); !slices.Equal(l, x.want) {
			t.Errorf("kind %d, %x: %d", x.kind, x.value, l)
		}
	}
}

func TestKidsOfALeafWithSome(t *testing.T) {
	n := api.Node{Items: []api.Item{
		{Key: api.Key{Obj: 1, Kind: 1}, Value: []byte("\x01\x00\x63")},
		{Key: api.Key{Obj: 1, Kind: 3}, Value: []byte("\x01\x00\x09")},
		{Key: api.Key{Obj: 1, Kind: 3, Off: 1}, Value: []byte("\x00ab")},
		{Key: api.Key{Obj: 1, Kind: 3, Off: 2}, Value: []byte("\x01\x00\x08")},
		{Key: api.Key{Obj: 1, Kind: 3, Off: 3}, Value: []byte("\x01\x00\x09")},
		{Key: api.Key{Obj: 1, Kind: 4}, Value: []byte("\x01\x00\x62")},
	}}
	want := []int{9, 8, 9} // in the items' order, and as often as they are named
	if l := node.Kids(n); !slices.Equal(l, want) {
		t.Errorf("%d", l)
	}
	read, e := node.Read(written(t, n, 5, 7), 5)
	if l := node.Kids(read); !slices.Equal(l, want) || e != api.OK {
		t.Errorf("as it is read: %d, %d", l, e)
	}
	if l := node.Kids(leaf(3)); len(l) != 0 {
		t.Errorf("a leaf with none: %d", l)
	}
}

// P6.3

func TestNodesAreReadAsTheyWere(t *testing.T) {
	for _, n := range all() {
		for _, addr := range []int{0, 1, 5, 2047} {
			reads(t, written(t, n, addr, 7), addr, n)
		}
	}
	for length := range 29 {
		for size := 1; size <= 6; size++ {
			n := leaf(size)
			for i := range n.Items {
				n.Items[i].Value = value(length)
			}
			reads(t, written(t, n, 5, 7), 5, n)
		}
	}
	for addr := 1; addr <= 2047; addr++ {
		reads(t, written(t, naming(addr), 5, 7), 5, naming(addr))
	}
}

// R1

func TestWhatIsNotValidEnds(t *testing.T) {
	for _, n := range wrong() {
		for _, k := range []api.Key{{}, at(5), {Obj: math.MinInt}, {Obj: math.MaxInt}} {
			node.Seek(n, k)
		}
		node.Least(n)
		node.Kids(n)
	}
}

// R6 and R7

// spared is a list with spare capacity, which is as little a call's own as the list is.
func spared[T any](l []T, mark T) []T {
	return append(slices.Clone(l), slices.Repeat([]T{mark}, 20)...)[:len(l)]
}

// handed is a node of such lists and of such values.
func handed(n api.Node) api.Node {
	n.Items = spared(n.Items, api.Item{Key: at(99), Value: []byte("mark")})
	for i, x := range n.Items {
		n.Items[i].Value = lent.Bytes(string(x.Value))
	}
	n.Kids = spared(n.Kids, api.Kid{Key: at(99), Addr: 99})
	return n
}

// untouched tells of a node that was handed in and is no longer what it was.
func untouched(t *testing.T, what string, n, was api.Node) {
	t.Helper()
	left := handed(was)
	ok := same(whole(n), whole(left))
	for i, x := range n.Items {
		ok = ok && lent.Untouched(x.Value, string(was.Items[i].Value))
	}
	if !ok {
		t.Errorf("%s: what was handed in became %+v", what, whole(n))
	}
}

// whole is a node with what is in its lists' spare capacity.
func whole(n api.Node) api.Node {
	return api.Node{Level: n.Level, Items: n.Items[:len(n.Items)+20], Kids: n.Kids[:len(n.Kids)+20]}
}

// scribbled writes over all that a node can reach.
func scribbled(n api.Node) {
	for i := range n.Items {
		lent.Scribble(n.Items[i].Value)
	}
	for i := range n.Items[:cap(n.Items)] {
		n.Items[:cap(n.Items)][i] = api.Item{}
	}
	for i := range n.Kids[:cap(n.Kids)] {
		n.Kids[:cap(n.Kids)][i] = api.Kid{}
	}
}

func TestNodesAreLeftAsTheyAreHandedIn(t *testing.T) {
	for _, was := range append(all(), both(0, 3, 3), leaf(7), holding(29), naming(0), both(1, 1, 2)) {
		n := handed(was)
		node.May(n)
		node.Seek(n, at(15))
		node.Least(n)
		l := node.Kids(n)
		b, _ := node.Write(n, 5, 7)
		node.Write(n, 2048, 7)
		untouched(t, "all calls", n, was)
		for i := range l {
			l[i] = -1
		}
		lent.Scribble(b)
		untouched(t, "their answers", n, was)
		b, _ = node.Write(n, 5, 7)
		scribbled(n)
		if b != nil && !bytes.Equal(b, laid(was, 5, 7)) {
			t.Errorf("a change of the node shows in its block: %x", b)
		}
	}
}

func TestBlocksAreLeftAsTheyAreHandedIn(t *testing.T) {
	for _, n := range all() {
		good := string(laid(n, 5, 7))
		for _, s := range []string{good, good[:255], good + "\x00", string(sealed(3, 0, 5, 9, 7, bodyOf(n))), ""} {
			b := lent.Bytes(s)
			read, _ := node.Read(b, 5)
			if !lent.Untouched(b, s) {
				t.Errorf("Read changed what was handed in to %x", b[:cap(b)])
			}
			scribbled(read)
			if !lent.Untouched(b, s) {
				t.Errorf("Read's answer shares memory with what was handed in: %x", b[:cap(b)])
			}
		}
		b := lent.Bytes(good)
		read, _ := node.Read(b, 5)
		other, _ := node.Read(b, 5)
		scribbled(other)
		lent.Scribble(b)
		if !same(read, n) {
			t.Errorf("a change of the block, or of another answer, shows in the node: %+v", read)
		}
	}
}

func TestValuesShareNoMemory(t *testing.T) {
	n, _ := node.Read(laid(leaf(6), 5, 7), 5)
	for i := range n.Items {
		for j := range n.Items {
			if j != i {
				lent.Scribble(n.Items[j].Value)
			}
		}
		if want := value(i * 11 % 29); !bytes.Equal(n.Items[i].Value, want) {
			t.Errorf("%d: %x", i, n.Items[i].Value)
		}
		for j := range n.Items { // what is scribbled over twice is what it was
			if j != i {
				lent.Scribble(n.Items[j].Value)
			}
		}
	}
}

func TestTheSameAgain(t *testing.T) {
	for _, n := range []api.Node{example, leaf(6), inner(7, 12)} {
		one := written(t, n, 5, 7)
		written(t, inner(2, 3), 9, 9)
		node.Write(api.Node{}, 5, 7)
		node.Read(nil, 5)
		two := written(t, n, 5, 7)
		if !bytes.Equal(one, two) {
			t.Errorf("%x, then %x", one, two)
		}
		lent.Scribble(one)
		reads(t, two, 5, n)
		corrupt(t, "the other", one, 5)
		reads(t, two, 5, n)
	}
}
