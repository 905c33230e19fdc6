package sum_test

import (
	"bytes"
	"math"
	"strings"
	"testing"

	"cambium/lent"
	"cambium/sum"
)

// bitwise is P2.1 word by word: the register, a bit at a time.
func bitwise(s uint32, b []byte) uint32 {
	r := math.MaxUint32 - s
	for _, c := range b {
		r ^= uint32(c)
		for range 8 {
			out := r & 1
			r >>= 1
			if out == 1 {
				r ^= 0x82f63b78
			}
		}
	}
	return math.MaxUint32 - r
}

// mixed is a row of n bytes in which every value comes and no two parts are alike.
func mixed(n int) []byte {
	b := make([]byte, n)
	x := uint32(7)
	for i := range b {
		x = x*1664525 + 1013904223
		b[i] = byte(x>>24) ^ byte(i)
	}
	return b
}

// starts are sums to go on from: the least, the greatest, and each that differs from them in one bit.
func starts() []uint32 {
	all := []uint32{0, math.MaxUint32, 0xe3069283, 0x82f63b78, 0x12345678}
	for bit := range 32 {
		all = append(all, 1<<bit, math.MaxUint32^1<<bit)
	}
	return all
}

// P2.1

func TestSum(t *testing.T) {
	for _, x := range []struct {
		name, s string
		want    uint32
	}{
		{"the digits", "123456789", 0xe3069283},
		{"no bytes", "", 0},
		{"a letter", "a", 0xc1d04330},
		{"32 noughts", strings.Repeat("\x00", 32), 0x8a9136aa},
		{"32 times 255", strings.Repeat("\xff", 32), 0x62a8ab43},
	} {
		if got := sum.Sum([]byte(x.s)); got != x.want {
			t.Errorf("%s: %08x, not %08x", x.name, got, x.want)
		}
	}
}

func TestNoBytes(t *testing.T) {
	if a, b := sum.Sum(nil), sum.Sum([]byte{}); a != 0 || b != 0 {
		t.Errorf("%08x, %08x", a, b)
	}
	for _, s := range starts() {
		if a, b := sum.More(s, nil), sum.More(s, []byte{}); a != s || b != s {
			t.Errorf("behind %08x: %08x, %08x", s, a, b)
		}
	}
}

func TestOneByteOfEachValue(t *testing.T) {
	for c := range 256 {
		b := []byte{byte(c)}
		if got, want := sum.Sum(b), bitwise(0, b); got != want {
			t.Errorf("%d: %08x, not %08x", c, got, want)
		}
		for _, s := range starts() {
			if got, want := sum.More(s, b), bitwise(s, b); got != want {
				t.Errorf("%d behind %08x: %08x, not %08x", c, s, got, want)
			}
		}
	}
}

func TestEachLength(t *testing.T) {
	b := mixed(1024)
	for n := range len(b) + 1 {
		if got, want := sum.Sum(b[:n]), bitwise(0, b[:n]); got != want {
			t.Fatalf("%d bytes: %08x, not %08x", n, got, want)
		}
		if got, want := sum.More(0x12345678, b[n:]), bitwise(0x12345678, b[n:]); got != want {
			t.Fatalf("all but %d bytes: %08x, not %08x", n, got, want)
		}
	}
}

func TestManyBytes(t *testing.T) {
	b := mixed(1<<20 + 3)
	if got, want := sum.Sum(b), bitwise(0, b); got != want {
		t.Errorf("%08x, not %08x", got, want)
	}
}

func TestMoreGoesOnFromAnySum(t *testing.T) {
	for _, b := range [][]byte{[]byte("a"), []byte("123456789"), make([]byte, 252), bytes.Repeat([]byte{255}, 7), mixed(252)} {
		for _, s := range starts() {
			if got, want := sum.More(s, b), bitwise(s, b); got != want {
				t.Errorf("%d bytes behind %08x: %08x, not %08x", len(b), s, got, want)
			}
		}
	}
}

// P2.2

func TestCutInTwo(t *testing.T) {
	for _, b := range [][]byte{[]byte("123456789"), make([]byte, 40), mixed(600)} {
		whole := sum.Sum(b)
		for i := range len(b) + 1 {
			if got := sum.More(sum.Sum(b[:i]), b[i:]); got != whole {
				t.Fatalf("%d bytes and %d: %08x, not %08x", i, len(b)-i, got, whole)
			}
		}
	}
}

func TestCutInThree(t *testing.T) {
	b := mixed(60)
	for _, s := range starts() {
		whole := sum.More(s, b)
		for j := range len(b) + 1 {
			for i := range j + 1 {
				if got := sum.More(sum.More(sum.More(s, b[:i]), b[i:j]), b[j:]); got != whole {
					t.Fatalf("behind %08x, cut at %d and %d: %08x, not %08x", s, i, j, got, whole)
				}
			}
		}
	}
}

func TestByteForByte(t *testing.T) {
	b := mixed(2000)
	s := sum.Sum(nil)
	for i, c := range b {
		s = sum.More(s, []byte{c})
		if want := bitwise(0, b[:i+1]); s != want {
			t.Fatalf("%d bytes: %08x, not %08x", i+1, s, want)
		}
	}
}

func TestAChangedByte(t *testing.T) {
	for _, b := range [][]byte{{0}, {255}, []byte("123456789"), make([]byte, 33), mixed(252)} {
		for _, s := range []uint32{0, math.MaxUint32, 0x12345678} {
			was := sum.More(s, b)
			for i := range b {
				for mask := 1; mask < 256; mask++ {
					b[i] ^= byte(mask)
					if s == 0 && sum.Sum(b) == was || sum.More(s, b) == was {
						t.Fatalf("%d bytes behind %08x, byte %d changed by %02x: the same sum", len(b), s, i, mask)
					}
					b[i] ^= byte(mask)
				}
			}
		}
	}
}

func TestAnotherSumAhead(t *testing.T) {
	b := mixed(252)
	from := make(map[uint32]uint32)
	for _, s := range starts() {
		got := sum.More(s, b)
		if other, ok := from[got]; ok {
			t.Errorf("%08x and %08x lead to the same sum", other, s)
		}
		from[got] = s
	}
}

// R6 and R7

func TestTheSameAgain(t *testing.T) {
	b := mixed(300)
	one, more := sum.Sum(b), sum.More(9, b)
	sum.More(math.MaxUint32, b[:100])
	sum.Sum([]byte("123456789"))
	if sum.Sum(b) != one || sum.More(9, b) != more {
		t.Error("another answer to the same call")
	}
}

func TestWhatIsHandedInStaysAsItWas(t *testing.T) {
	for _, s := range []string{"", "a", "123456789", string(mixed(252))} {
		b := lent.Bytes(s)
		sum.Sum(b)
		sum.More(0, b)
		sum.More(math.MaxUint32, b)
		if !lent.Untouched(b, s) {
			t.Errorf("%q became %q", s, b[:cap(b)])
		}
	}
}

func TestSpareCapacityIsNotSummed(t *testing.T) {
	b := lent.Bytes("123456789")
	if got := sum.Sum(b); got != 0xe3069283 {
		t.Errorf("%08x", got)
	}
}
