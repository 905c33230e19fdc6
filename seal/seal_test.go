package seal_test

import (
	"bytes"
	"encoding/binary"
	"hash/crc32"
	"math"
	"strings"
	"testing"

	"cambium/api"
	"cambium/lent"
	"cambium/seal"
)

// example is the chapter's.
var example = api.Head{Kind: 3, Addr: 5, Count: 1, Gen: 2}

// heads are valid ones: ordinary, and each number at its least and at its greatest.
var heads = []api.Head{
	example,
	{Kind: api.BlockInner, Level: 7, Addr: 0x0102, Count: 0x0304, Gen: 0x0506070809},
	{Kind: 1},
	{Kind: 6, Level: 8, Addr: 2047, Count: 65535, Gen: 1<<40 - 1},
	{Kind: 2, Addr: 2047},
	{Kind: 4, Level: 8},
	{Kind: 5, Count: 65535},
	{Kind: 6, Gen: 1<<40 - 1},
	{Kind: 1, Level: 1, Addr: 256, Count: 256, Gen: 1 << 32},
}

// edges are, of each number of a header, what just may be and what just may not be.
var edges = []struct {
	name      string
	put       func(*api.Head, int)
	good, bad []int
}{
	{"Kind", func(h *api.Head, x int) { h.Kind = x }, []int{1, 2, 3, 4, 5, 6}, []int{0, -1, 7, 8, 255, 256, 257, math.MinInt, math.MaxInt}},
	{"Level", func(h *api.Head, x int) { h.Level = x }, []int{0, 1, 7, 8}, []int{-1, 9, 255, 256, math.MinInt, math.MaxInt}},
	{"Addr", func(h *api.Head, x int) { h.Addr = x }, []int{0, 1, 255, 256, 2046, 2047}, []int{-1, 2048, 65535, 65536, math.MinInt, math.MaxInt}},
	{"Count", func(h *api.Head, x int) { h.Count = x }, []int{0, 1, 255, 256, 65534, 65535}, []int{-1, 65536, 65537, math.MinInt, math.MaxInt}},
	{"Gen", func(h *api.Head, x int) { h.Gen = x }, []int{0, 1, 1 << 32, 1<<40 - 2, 1<<40 - 1}, []int{-1, 1 << 40, 1<<40 + 1, math.MinInt, math.MaxInt}},
}

// laid is the chapter's head word by word: where each number stands, whether it may be or not.
func laid(h api.Head, body string) []byte {
	b := make([]byte, 256)
	b[4] = byte(h.Kind)
	b[5] = byte(h.Level)
	binary.BigEndian.PutUint16(b[6:], uint16(h.Addr))
	binary.BigEndian.PutUint16(b[8:], uint16(h.Count))
	b[10] = byte(h.Gen >> 32)
	binary.BigEndian.PutUint32(b[11:], uint32(h.Gen))
	copy(b[20:], body)
	return right(b)
}

// right gives bytes the sum that belongs to them.
func right(b []byte) []byte {
	binary.BigEndian.PutUint32(b, crc32.Checksum(b[4:], crc32.MakeTable(crc32.Castagnoli)))
	return b
}

// mixed is a text of n bytes of all values; none of them is a nought near its ends.
func mixed(n int) string {
	b := make([]byte, n)
	for i := range b {
		b[i] = byte(i*7 + 1)
	}
	return string(b)
}

// padded is a body as it stands in a block.
func padded(body string) string { return body + strings.Repeat("\x00", 236-len(body)) }

// untouched tells of what was handed in and is no longer what it was.
func untouched(t *testing.T, what string, b []byte, s string) {
	t.Helper()
	if !lent.Untouched(b, s) {
		t.Errorf("%s: what was handed in became %x", what, b[:cap(b)])
	}
}

// sealed is a block that must come about.
func sealed(t *testing.T, h api.Head, body string) []byte {
	t.Helper()
	b, e := seal.Seal(h, []byte(body))
	if e != api.OK {
		t.Fatalf("%+v: %d", h, e)
	}
	return b
}

// corrupt asks both calls for the one error, and for nothing beside it.
func corrupt(t *testing.T, what string, b []byte, kind, addr int) {
	t.Helper()
	if h, body, e := seal.Open(b); h != (api.Head{}) || body != nil || e != api.ErrCorrupt {
		t.Errorf("%s: Open: %+v, %d bytes, %d", what, h, len(body), e)
	}
	miss(t, what, b, kind, addr)
}

// miss asks Check alone.
func miss(t *testing.T, what string, b []byte, kind, addr int) {
	t.Helper()
	if h, body, e := seal.Check(b, kind, addr); h != (api.Head{}) || body != nil || e != api.ErrCorrupt {
		t.Errorf("%s: Check: %+v, %d bytes, %d", what, h, len(body), e)
	}
}

// opens asks both calls for what a block holds.
func opens(t *testing.T, b []byte, want api.Head, wantBody string) {
	t.Helper()
	if h, body, e := seal.Open(b); h != want || string(body) != wantBody || e != api.OK {
		t.Errorf("%+v: Open: %+v, %x, %d", want, h, body, e)
	}
	if h, body, e := seal.Check(b, want.Kind, want.Addr); h != want || string(body) != wantBody || e != api.OK {
		t.Errorf("%+v: Check: %+v, %x, %d", want, h, body, e)
	}
}

// P4.1

func TestSealOfTheExample(t *testing.T) {
	b := sealed(t, example, "\x07")
	const want = "\x03\x00\x00\x05\x00\x01\x00\x00\x00\x00\x02\x00\x00\x00\x00\x00\x07\x00"
	if len(b) != 256 || string(b[4:22]) != want {
		t.Errorf("%d bytes: %x", len(b), b)
	}
}

func TestSealLaysEachNumberInItsPlace(t *testing.T) {
	b := sealed(t, api.Head{Kind: 4, Level: 7, Addr: 0x0102, Count: 0x0304, Gen: 0x0506070809}, "\xaa\xbb")
	const want = "\x04\x07\x01\x02\x03\x04\x05\x06\x07\x08\x09\x00\x00\x00\x00\x00\xaa\xbb\x00"
	if string(b[4:23]) != want {
		t.Errorf("%x, not %x", b[4:23], want)
	}
}

func TestSealIsAsTheChapterLaysIt(t *testing.T) {
	for _, h := range heads {
		for _, n := range []int{0, 1, 2, 100, 235, 236} {
			if got, want := sealed(t, h, mixed(n)), laid(h, mixed(n)); !bytes.Equal(got, want) {
				t.Errorf("%+v, %d bytes: %x, not %x", h, n, got, want)
			}
		}
	}
}

func TestSealOfEachEdge(t *testing.T) {
	for _, x := range edges {
		for _, v := range x.good {
			h := example
			x.put(&h, v)
			if got, want := sealed(t, h, "body"), laid(h, "body"); !bytes.Equal(got, want) {
				t.Errorf("%s %d: %x, not %x", x.name, v, got, want)
			}
		}
		for _, v := range x.bad {
			h := example
			x.put(&h, v)
			for _, body := range []string{"", "body", mixed(236), mixed(237), mixed(10000)} { // ErrArg ahead of ErrLong
				if b, e := seal.Seal(h, []byte(body)); b != nil || e != api.ErrArg {
					t.Errorf("%s %d, %d bytes: %d bytes, %d", x.name, v, len(body), len(b), e)
				}
			}
		}
	}
}

func TestSealOfNoBody(t *testing.T) {
	for _, body := range [][]byte{nil, {}} {
		b, e := seal.Seal(example, body)
		if !bytes.Equal(b, laid(example, "")) || e != api.OK {
			t.Errorf("%x, %d", b, e)
		}
	}
}

func TestSealOfALongBody(t *testing.T) {
	for _, h := range heads {
		if b, e := seal.Seal(h, make([]byte, 236)); len(b) != 256 || e != api.OK {
			t.Errorf("%+v, 236 bytes: %d bytes, %d", h, len(b), e)
		}
		for _, n := range []int{237, 238, 256, 65536} {
			if b, e := seal.Seal(h, make([]byte, n)); b != nil || e != api.ErrLong {
				t.Errorf("%+v, %d bytes: %d bytes, %d", h, n, len(b), e)
			}
		}
	}
}

func TestSealOfEachLength(t *testing.T) {
	for n := range 237 {
		if got, want := sealed(t, example, mixed(n)), laid(example, mixed(n)); !bytes.Equal(got, want) {
			t.Errorf("%d bytes: %x, not %x", n, got, want)
		}
	}
}

// P4.2

func TestOpenOfTheExample(t *testing.T) {
	b := sealed(t, example, "\x07")
	opens(t, b, example, padded("\x07"))
	miss(t, "another address", b, 3, 6)
}

func TestOpenOfWhatTheChapterLays(t *testing.T) {
	for _, h := range heads {
		for _, body := range []string{"", "\x07", mixed(236), strings.Repeat("\xff", 236), strings.Repeat("\x00", 235) + "\x01"} {
			opens(t, laid(h, body), h, padded(body))
		}
	}
}

func TestOpenOfAnotherLength(t *testing.T) {
	whole := laid(example, mixed(236))
	corrupt(t, "none", nil, 3, 5)
	corrupt(t, "an empty one", []byte{}, 3, 5)
	corrupt(t, "255 bytes with the last one in the spare capacity", whole[:255], 3, 5)
	corrupt(t, "a byte more", append(bytes.Clone(whole), 0), 3, 5)
	corrupt(t, "a byte ahead", append([]byte{0}, whole...), 3, 5)
	corrupt(t, "two of them", append(bytes.Clone(whole), whole...), 3, 5)
	for n := range 256 {
		corrupt(t, "a part", bytes.Clone(whole[:n]), 3, 5)
	}
	for _, n := range []int{4, 15, 20, 21, 255, 257, 258, 512} { // a right sum makes up for no length
		b := make([]byte, n)
		copy(b, whole)
		corrupt(t, "a right sum", right(b), 3, 5)
	}
}

func TestOpenOfAWrongSum(t *testing.T) {
	for _, h := range heads {
		whole := laid(h, mixed(236))
		for bit := range 32 {
			b := bytes.Clone(whole)
			b[bit/8] ^= 1 << (bit % 8)
			corrupt(t, "a bit of the sum turned", b, h.Kind, h.Addr)
		}
		b := bytes.Clone(whole)
		binary.LittleEndian.PutUint32(b, binary.BigEndian.Uint32(b))
		corrupt(t, "the sum the other way round", b, h.Kind, h.Addr)
		copy(b, "\x00\x00\x00\x00")
		corrupt(t, "no sum", b, h.Kind, h.Addr)
	}
	corrupt(t, "noughts", make([]byte, 256), 0, 0)
	corrupt(t, "times 255", bytes.Repeat([]byte{255}, 256), 255, 65535)
}

// The numbers that a block can hold and a header may not have: Count and Gen fill their bytes, so there is none of them.
func TestOpenOfAHeaderThatIsNotValid(t *testing.T) {
	for i, x := range []struct{ held, least, most int }{{256, 1, 6}, {256, 0, 8}, {65536, 0, 2047}} {
		for v := range x.held {
			h := example
			edges[i].put(&h, v)
			if b := laid(h, "body"); v >= x.least && v <= x.most {
				opens(t, b, h, padded("body"))
			} else {
				corrupt(t, edges[i].name, b, h.Kind, h.Addr)
			}
		}
	}
}

func TestOpenOfNoughtsThatAreNone(t *testing.T) {
	for _, h := range heads {
		for at := 15; at < 20; at++ {
			for c := 1; c < 256; c++ {
				b := laid(h, mixed(236))
				b[at] = byte(c)
				corrupt(t, "one of the noughts", right(b), h.Kind, h.Addr)
			}
		}
		b := laid(h, mixed(236))
		copy(b[15:], "\xff\xff\xff\xff\xff")
		corrupt(t, "all of the noughts", right(b), h.Kind, h.Addr)
		copy(b[15:], "\x01\xff\x00\x00\x00") // their sum is nought, as a byte
		corrupt(t, "two of the noughts", right(b), h.Kind, h.Addr)
	}
}

func TestCheckOfAnotherKindOrAddress(t *testing.T) {
	for _, h := range heads {
		b := sealed(t, h, "body")
		for kind := -1; kind <= 7; kind++ {
			if kind != h.Kind {
				miss(t, "another kind", b, kind, h.Addr)
				miss(t, "another kind and address", b, kind, h.Addr+1)
			}
		}
		for _, far := range []int{1, 16, 255, 256, 257, 65536, 1 << 32, math.MinInt} {
			miss(t, "a kind above", b, h.Kind+far, h.Addr)
			miss(t, "a kind below", b, h.Kind-far, h.Addr)
			miss(t, "an address above", b, h.Kind, h.Addr+far)
			miss(t, "an address below", b, h.Kind, h.Addr-far)
		}
		miss(t, "a kind and an address below nought", b, -h.Kind, -h.Addr-1)
		if h.Kind != h.Addr {
			miss(t, "kind and address changed about", b, h.Addr, h.Kind)
		}
	}
}

func TestCheckOfEachAddress(t *testing.T) {
	b := sealed(t, example, "body")
	for addr := -2; addr < 70000; addr++ {
		if addr != example.Addr {
			miss(t, "another address", b, example.Kind, addr)
		}
	}
	opens(t, b, example, padded("body"))
}

// P4.3

func TestWhatIsSealedOpens(t *testing.T) {
	for _, x := range edges {
		for _, y := range edges {
			for _, v := range x.good {
				for _, w := range y.good {
					h := example
					x.put(&h, v)
					y.put(&h, w)
					opens(t, sealed(t, h, mixed(9)), h, padded(mixed(9)))
				}
			}
		}
	}
	for n := range 237 {
		opens(t, sealed(t, example, mixed(n)), example, padded(mixed(n)))
	}
}

func TestOneByteChanged(t *testing.T) {
	for i, h := range heads {
		body := mixed(i % 3 * 118)
		b := sealed(t, h, body)
		for at := range b {
			for mask := 1; mask < 256; mask++ {
				b[at] ^= byte(mask)
				if g, rest, e := seal.Open(b); g != (api.Head{}) || rest != nil || e != api.ErrCorrupt {
					t.Fatalf("%+v, byte %d changed by %02x: %+v, %d", h, at, mask, g, e)
				}
				b[at] ^= byte(mask)
			}
		}
		opens(t, b, h, padded(body))
	}
}

// R6 and R7

func TestTheSameAgain(t *testing.T) {
	one := sealed(t, example, "body")
	sealed(t, heads[3], mixed(236))
	seal.Seal(api.Head{}, nil)
	seal.Open(nil)
	if two := sealed(t, example, "body"); !bytes.Equal(one, two) {
		t.Errorf("%x, then %x", one, two)
	}
	opens(t, one, example, padded("body"))
	corrupt(t, "none", nil, 3, 5)
	opens(t, one, example, padded("body"))
}

func TestSealLeavesWhatIsHandedIn(t *testing.T) {
	for _, body := range []string{"", "body", mixed(235), mixed(236), mixed(237)} {
		b := lent.Bytes(body)
		got, _ := seal.Seal(example, b)
		untouched(t, "Seal", b, body)
		lent.Scribble(got)
		untouched(t, "Seal's answer", b, body)
		seal.Seal(api.Head{}, b)
		untouched(t, "what is refused", b, body)
	}
	body := lent.Bytes("body")
	got, _ := seal.Seal(example, body)
	lent.Scribble(body)
	if !bytes.Equal(got, laid(example, "body")) {
		t.Errorf("a change of the body shows in the block: %x", got)
	}
}

func TestOpenLeavesWhatIsHandedIn(t *testing.T) {
	block := string(laid(example, mixed(236)))
	broken := string(make([]byte, 256))
	for _, s := range []string{block, broken, block[:255], block + "\x00", ""} {
		b := lent.Bytes(s)
		_, body, _ := seal.Open(b)
		_, same, _ := seal.Check(b, 3, 5)
		seal.Check(b, 3, 6)
		untouched(t, "Open and Check", b, s)
		lent.Scribble(body)
		lent.Scribble(same)
		untouched(t, "their answers", b, s)
	}
	b := lent.Bytes(block)
	_, body, _ := seal.Open(b)
	_, same, _ := seal.Check(b, 3, 5)
	lent.Scribble(b)
	if string(body) != mixed(236) || string(same) != mixed(236) {
		t.Errorf("a change of the block shows in its body: %x, %x", body, same)
	}
}

func TestAnswersShareNoMemory(t *testing.T) {
	one, two := sealed(t, example, "body"), sealed(t, example, "body")
	lent.Scribble(one)
	opens(t, two, example, padded("body"))
	_, first, _ := seal.Open(two)
	_, second, _ := seal.Open(two)
	_, third, _ := seal.Check(two, 3, 5)
	lent.Scribble(first)
	lent.Scribble(third)
	if string(second) != padded("body") {
		t.Errorf("%x", second)
	}
	opens(t, two, example, padded("body"))
}
