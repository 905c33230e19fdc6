package key_test

import (
	"bytes"
	"encoding/binary"
	"math"
	"math/big"
	"slices"
	"testing"

	"cambium/api"
	"cambium/key"
	"cambium/lent"
)

const most = 1<<31 - 1 // of Obj and Off

// What each number of a key may be, ordinary ones and edges; and what it may not be, some of it such that its lowest bytes may.
var (
	goodNumbers = []int{0, 1, 2, 127, 128, 255, 256, 257, 65535, 65536, 1 << 24, 0x01020304, most - 1, most}
	badNumbers  = []int{-1, -2, -256, -most, -most - 1, most + 1, most + 2, 1<<32 - 1, 1 << 32, 1<<32 + 1, math.MinInt, math.MinInt + 1, math.MaxInt}
	goodKinds   = []int{0, 1, 2, 3, 4, 127, 128, 254, 255}
	badKinds    = []int{-1, -2, -255, -256, 256, 257, 511, 512, 65536, most, 1 << 32, math.MinInt, math.MaxInt}
)

// all are the keys of which each number is one of a list.
func all(objs, kinds, offs []int) []api.Key {
	var l []api.Key
	for _, obj := range objs {
		for _, kind := range kinds {
			for _, off := range offs {
				l = append(l, api.Key{Obj: obj, Kind: kind, Off: off})
			}
		}
	}
	return l
}

func valid() []api.Key { return all(goodNumbers, goodKinds, goodNumbers) }

// laid is the chapter's encoding, number by number, whether they may be or not.
func laid(k api.Key) string {
	b := binary.BigEndian.AppendUint32(nil, uint32(k.Obj))
	b = append(b, byte(k.Kind))
	return string(binary.BigEndian.AppendUint32(b, uint32(k.Off)))
}

// rank is how many valid keys stand ahead of a valid one.
func rank(k api.Key) *big.Int {
	r := big.NewInt(int64(k.Obj))
	r.Mul(r, big.NewInt(256))
	r.Add(r, big.NewInt(int64(k.Kind)))
	r.Mul(r, big.NewInt(most+1))
	return r.Add(r, big.NewInt(int64(k.Off)))
}

func numbers(k api.Key) []int { return []int{k.Obj, k.Kind, k.Off} }

// refused asks Take for an error, and for nothing beside it.
func refused(t *testing.T, what string, b []byte, want api.Errno) {
	t.Helper()
	if k, rest, e := key.Take(b); k != (api.Key{}) || rest != nil || e != want {
		t.Errorf("%s, %x: %+v, %x, %d, not %d", what, b, k, rest, e, want)
	}
}

// P5.1

func TestLess(t *testing.T) {
	for _, x := range []struct {
		name string
		a, b api.Key
		want bool
	}{
		{"the example", api.Key{Obj: 1, Kind: 2, Off: 3}, api.Key{Obj: 1, Kind: 3}, true},
		{"the example the other way round", api.Key{Obj: 1, Kind: 3}, api.Key{Obj: 1, Kind: 2, Off: 3}, false},
		{"equal", api.Key{Obj: 1, Kind: 2, Off: 3}, api.Key{Obj: 1, Kind: 2, Off: 3}, false},
		{"equal, all noughts", api.Key{}, api.Key{}, false},
		{"the lesser Obj", api.Key{Obj: 1, Kind: 5, Off: 5}, api.Key{Obj: 2, Kind: 5, Off: 5}, true},
		{"the greater Obj", api.Key{Obj: 2, Kind: 5, Off: 5}, api.Key{Obj: 1, Kind: 5, Off: 5}, false},
		{"the lesser Kind", api.Key{Obj: 5, Kind: 1, Off: 5}, api.Key{Obj: 5, Kind: 2, Off: 5}, true},
		{"the greater Kind", api.Key{Obj: 5, Kind: 2, Off: 5}, api.Key{Obj: 5, Kind: 1, Off: 5}, false},
		{"the lesser Off", api.Key{Obj: 5, Kind: 5, Off: 1}, api.Key{Obj: 5, Kind: 5, Off: 2}, true},
		{"the greater Off", api.Key{Obj: 5, Kind: 5, Off: 2}, api.Key{Obj: 5, Kind: 5, Off: 1}, false},
		{"Obj ahead of Kind and Off", api.Key{Obj: 1, Kind: 9, Off: 9}, api.Key{Obj: 2}, true},
		{"Obj ahead of Kind and Off, greater", api.Key{Obj: 2}, api.Key{Obj: 1, Kind: 9, Off: 9}, false},
		{"Kind ahead of Off", api.Key{Kind: 1, Off: 9}, api.Key{Kind: 2}, true},
		{"Kind ahead of Off, greater", api.Key{Kind: 2}, api.Key{Kind: 1, Off: 9}, false},
		{"a negative Obj", api.Key{Obj: -1, Kind: 9, Off: 9}, api.Key{}, true},
		{"a negative Kind", api.Key{Kind: -1, Off: 9}, api.Key{}, true},
		{"a negative Off", api.Key{Off: -1}, api.Key{}, true},
		{"negative ones", api.Key{Obj: -2}, api.Key{Obj: -1}, true},
		{"past MaxNumber", api.Key{Obj: most}, api.Key{Obj: most + 1}, true},
		{"a Kind past 255", api.Key{Kind: 255}, api.Key{Kind: 256}, true},
		{"an Off past MaxNumber", api.Key{Off: most}, api.Key{Off: most + 1}, true},
		{"an Off past MaxNumber is not the next Kind", api.Key{Off: most + 1}, api.Key{Kind: 1}, true},
		{"ends whose difference is no int, Obj", api.Key{Obj: math.MinInt}, api.Key{Obj: math.MaxInt}, true},
		{"ends whose difference is no int, Kind", api.Key{Kind: math.MaxInt}, api.Key{Kind: math.MinInt}, false},
		{"ends whose difference is no int, Off", api.Key{Off: math.MinInt}, api.Key{Off: math.MaxInt}, true},
	} {
		if got := key.Less(x.a, x.b); got != x.want {
			t.Errorf("%s: %v", x.name, got)
		}
	}
}

func TestLessOfArbitraryNumbers(t *testing.T) {
	edges := []int{math.MinInt, -1 << 32, -most - 1, -1, 0, 1, 255, 256, most, most + 1, 1 << 32, math.MaxInt}
	l := all(edges, edges, edges)
	for _, a := range l {
		for _, b := range l {
			if got, want := key.Less(a, b), slices.Compare(numbers(a), numbers(b)) < 0; got != want {
				t.Fatalf("%+v, %+v: %v", a, b, got)
			}
		}
	}
}

func TestMayOfEachEdge(t *testing.T) {
	for _, x := range []struct {
		k    api.Key
		want bool
	}{
		{api.Key{}, true},
		{api.Key{Obj: 1, Kind: 2, Off: 3}, true},
		{api.Key{Obj: -1}, false},
		{api.Key{Obj: most}, true},
		{api.Key{Obj: most + 1}, false},
		{api.Key{Kind: -1}, false},
		{api.Key{Kind: 255}, true},
		{api.Key{Kind: 256}, false},
		{api.Key{Off: -1}, false},
		{api.Key{Off: most}, true},
		{api.Key{Off: most + 1}, false},
		{api.Key{Obj: most, Kind: 255, Off: most}, true},
		{api.Key{Obj: -1, Kind: -1, Off: -1}, false},
		{api.Key{Obj: most + 1, Kind: 256, Off: most + 1}, false},
	} {
		if got := key.May(x.k); got != x.want {
			t.Errorf("%+v: %v", x.k, got)
		}
	}
}

func TestMayOfEachNumber(t *testing.T) {
	for _, k := range all(slices.Concat(goodNumbers, badNumbers), slices.Concat(goodKinds, badKinds), slices.Concat(goodNumbers, badNumbers)) {
		want := slices.Contains(goodNumbers, k.Obj) && slices.Contains(goodKinds, k.Kind) && slices.Contains(goodNumbers, k.Off)
		if got := key.May(k); got != want {
			t.Fatalf("%+v: %v", k, got)
		}
	}
	for kind := -300; kind < 600; kind++ {
		if got := key.May(api.Key{Kind: kind}); got != (kind >= 0 && kind <= 255) {
			t.Errorf("Kind %d: %v", kind, got)
		}
	}
}

// P5.2

func TestPut(t *testing.T) {
	for _, x := range []struct {
		name string
		k    api.Key
		want string
	}{
		{"the example", api.Key{Obj: 1, Kind: 2, Off: 3}, "\x00\x00\x00\x01\x02\x00\x00\x00\x03"},
		{"noughts", api.Key{}, "\x00\x00\x00\x00\x00\x00\x00\x00\x00"},
		{"each byte its own", api.Key{Obj: 0x01020304, Kind: 5, Off: 0x06070809}, "\x01\x02\x03\x04\x05\x06\x07\x08\x09"},
		{"the greatest", api.Key{Obj: most, Kind: 255, Off: most}, "\x7f\xff\xff\xff\xff\x7f\xff\xff\xff"},
	} {
		for _, ahead := range []string{"", "x", "ab\x00"} {
			if got := key.Put([]byte(ahead), x.k); string(got) != ahead+x.want {
				t.Errorf("%s behind %q: %x", x.name, ahead, got)
			}
		}
		if got := key.Put(nil, x.k); string(got) != x.want {
			t.Errorf("%s behind none: %x", x.name, got)
		}
	}
}

func TestPutIsAsTheChapterLaysIt(t *testing.T) {
	for _, k := range valid() {
		for _, ahead := range []string{"", "ab\x00"} {
			if got := key.Put([]byte(ahead), k); string(got) != ahead+laid(k) {
				t.Fatalf("%+v behind %q: %x", k, ahead, got)
			}
		}
	}
}

func TestTake(t *testing.T) {
	const b = "\x01\x02\x03\x04\x05\x06\x07\x08\x09"
	want := api.Key{Obj: 0x01020304, Kind: 5, Off: 0x06070809}
	for _, behind := range []string{"", "\x0a", "\x00", "\xff\xff", b, b + b} {
		if k, rest, e := key.Take([]byte(b + behind)); k != want || string(rest) != behind || e != api.OK {
			t.Errorf("%x behind: %+v, %x, %d", behind, k, rest, e)
		}
	}
	if k, rest, e := key.Take([]byte("\x7f\xff\xff\xff\xff\x7f\xff\xff\xff\x80")); k != (api.Key{Obj: most, Kind: 255, Off: most}) || string(rest) != "\x80" || e != api.OK {
		t.Errorf("the greatest: %+v, %x, %d", k, rest, e)
	}
}

func TestTakeOfTooFew(t *testing.T) {
	for _, b := range [][]byte{nil, {}} {
		refused(t, "no bytes", b, api.ErrShort)
	}
	for n := range 9 {
		refused(t, "noughts", make([]byte, n), api.ErrShort)
		refused(t, "enough in the spare capacity alone", make([]byte, n, 20), api.ErrShort)
		refused(t, "ErrShort ahead of ErrCorrupt", bytes.Repeat([]byte{255}, n), api.ErrShort)
	}
	if k, rest, e := key.Take(make([]byte, 9)); k != (api.Key{}) || len(rest) != 0 || e != api.OK {
		t.Errorf("nine noughts: %+v, %x, %d", k, rest, e)
	}
}

func TestTakeOfAKeyThatIsNotValid(t *testing.T) {
	for _, x := range []struct{ name, b string }{
		{"the highest bit of Obj", "\x80\x00\x00\x00\x00\x00\x00\x00\x00"},
		{"the highest bit of Obj, among others", "\x80\x02\x03\x04\x05\x06\x07\x08\x09"},
		{"all of Obj", "\xff\xff\xff\xff\x05\x06\x07\x08\x09"},
		{"the highest bit of Off", "\x00\x00\x00\x00\x00\x80\x00\x00\x00"},
		{"the highest bit of Off, among others", "\x01\x02\x03\x04\x05\x86\x07\x08\x09"},
		{"all of Off", "\x01\x02\x03\x04\x05\xff\xff\xff\xff"},
		{"the highest bits of both", "\x80\x00\x00\x00\x00\x80\x00\x00\x00"},
		{"all", "\xff\xff\xff\xff\xff\xff\xff\xff\xff"},
	} {
		for _, behind := range []string{"", "\x00", "\x00\x00\x00\x01\x02\x00\x00\x00\x03"} {
			refused(t, x.name, []byte(x.b+behind), api.ErrCorrupt)
		}
	}
}

func TestKeysAreReadAsTheyWere(t *testing.T) {
	for _, k := range valid() {
		for _, behind := range []string{"", "\x00", "\xff\x01"} {
			if got, rest, e := key.Take(append(key.Put(nil, k), behind...)); got != k || string(rest) != behind || e != api.OK {
				t.Fatalf("%+v: %+v, %x, %d", k, got, rest, e)
			}
		}
	}
	for bit := range 72 {
		b := make([]byte, 9)
		b[bit/8] = 0x80 >> (bit % 8)
		if bit == 0 || bit == 40 {
			refused(t, "the highest bit", b, api.ErrCorrupt)
		} else if k, _, e := key.Take(b); laid(k) != string(b) || e != api.OK {
			t.Errorf("bit %d: %+v, %d", bit, k, e)
		}
	}
}

func TestOneBehindAnother(t *testing.T) {
	one, two := api.Key{Obj: 7, Kind: 1}, api.Key{Obj: 7, Kind: 3, Off: 300}
	b := key.Put(key.Put(nil, one), two)
	k, b, e := key.Take(b)
	l, b, f := key.Take(b)
	if k != one || l != two || len(b) != 0 || e != api.OK || f != api.OK {
		t.Error(k, l, b, e, f)
	}
}

// P5.3

func TestNext(t *testing.T) {
	for _, x := range []struct{ k, want api.Key }{
		{api.Key{Obj: 1, Kind: 2, Off: most}, api.Key{Obj: 1, Kind: 3}}, // the examples
		{api.Key{Obj: 1, Kind: 255, Off: most}, api.Key{Obj: 2}},
		{api.Key{}, api.Key{Off: 1}},
		{api.Key{Obj: 1, Kind: 2, Off: 3}, api.Key{Obj: 1, Kind: 2, Off: 4}},
		{api.Key{Obj: 1, Kind: 2, Off: most - 1}, api.Key{Obj: 1, Kind: 2, Off: most}},
		{api.Key{Obj: 1, Kind: 255, Off: 3}, api.Key{Obj: 1, Kind: 255, Off: 4}},
		{api.Key{Obj: 1, Kind: 254, Off: most}, api.Key{Obj: 1, Kind: 255}},
		{api.Key{Kind: 255, Off: most}, api.Key{Obj: 1}},
		{api.Key{Obj: most - 1, Kind: 255, Off: most}, api.Key{Obj: most}},
		{api.Key{Obj: most, Kind: 254, Off: most}, api.Key{Obj: most, Kind: 255}},
		{api.Key{Obj: most, Kind: 255}, api.Key{Obj: most, Kind: 255, Off: 1}},
		{api.Key{Obj: most, Kind: 255, Off: most - 1}, api.Key{Obj: most, Kind: 255, Off: most}},
	} {
		if got, e := key.Next(x.k); got != x.want || e != api.OK {
			t.Errorf("%+v: %+v, %d", x.k, got, e)
		}
	}
	if got, e := key.Next(api.Key{Obj: most, Kind: 255, Off: most}); got != (api.Key{}) || e != api.ErrNone {
		t.Errorf("the greatest: %+v, %d", got, e)
	}
}

func TestNothingStandsBetweenAKeyAndTheNext(t *testing.T) {
	one := big.NewInt(1)
	for _, k := range valid() {
		if k == (api.Key{Obj: most, Kind: 255, Off: most}) {
			continue
		}
		got, e := key.Next(k)
		want := rank(k)
		if e != api.OK || !key.May(got) || !key.Less(k, got) || rank(got).Cmp(want.Add(want, one)) != 0 {
			t.Fatalf("%+v: %+v, %d", k, got, e)
		}
	}
}

func TestFirstAndLast(t *testing.T) {
	for _, k := range all(goodNumbers, goodKinds, []int{0}) {
		if got := key.First(k.Obj, k.Kind); got != k {
			t.Errorf("First(%d, %d): %+v", k.Obj, k.Kind, got)
		}
		if got, want := key.Last(k.Obj, k.Kind), (api.Key{Obj: k.Obj, Kind: k.Kind, Off: most}); got != want {
			t.Errorf("Last(%d, %d): %+v", k.Obj, k.Kind, got)
		}
	}
	for _, k := range all(badNumbers, badKinds, []int{0}) { // the chapter asks nothing of obj and kind here
		if got := key.First(k.Obj, k.Kind); got != k {
			t.Errorf("First(%d, %d): %+v", k.Obj, k.Kind, got)
		}
		if got, want := key.Last(k.Obj, k.Kind), (api.Key{Obj: k.Obj, Kind: k.Kind, Off: most}); got != want {
			t.Errorf("Last(%d, %d): %+v", k.Obj, k.Kind, got)
		}
	}
}

func TestTheNextOfALastIsAFirst(t *testing.T) {
	for _, k := range valid() {
		if k.Kind < 255 {
			if got, e := key.Next(key.Last(k.Obj, k.Kind)); got != key.First(k.Obj, k.Kind+1) || e != api.OK {
				t.Fatalf("%+v: %+v, %d", k, got, e)
			}
		}
		if key.Less(k, key.First(k.Obj, k.Kind)) || key.Less(key.Last(k.Obj, k.Kind), k) {
			t.Fatalf("%+v stands not among its object's kind", k)
		}
	}
}

// P5.4

func TestBytesOrderAsKeysDo(t *testing.T) {
	l := valid()
	var encoded [][]byte
	for _, k := range l {
		encoded = append(encoded, key.Put(nil, k))
	}
	for i, a := range l {
		for j, b := range l {
			if got, want := bytes.Compare(encoded[i], encoded[j]) < 0, key.Less(a, b); got != want {
				t.Fatalf("%+v, %+v: bytes %v, keys %v", a, b, got, want)
			}
		}
	}
}

// R1

func TestWhatIsNotValidEnds(t *testing.T) {
	for _, k := range slices.Concat(all(badNumbers, badKinds, badNumbers), all(badNumbers, goodKinds, goodNumbers), all(goodNumbers, badKinds, goodNumbers), all(goodNumbers, goodKinds, badNumbers)) {
		key.Put([]byte("x"), k)
		key.Next(k)
	}
}

// R6 and R7

func TestTheSameAgain(t *testing.T) {
	k := api.Key{Obj: 1, Kind: 2, Off: 3}
	one := key.Put(nil, k)
	next, _ := key.Next(k)
	key.Put(nil, api.Key{Obj: most, Kind: 255, Off: most})
	key.Take(nil)
	two := key.Put(nil, k)
	again, _ := key.Next(k)
	if !bytes.Equal(one, two) || next != again {
		t.Errorf("%x and %+v, then %x and %+v", one, next, two, again)
	}
	lent.Scribble(one)
	if string(two) != laid(k) {
		t.Errorf("the answers of Put share memory: %x", two)
	}
}

func TestPutLeavesWhatIsHandedIn(t *testing.T) {
	k := api.Key{Obj: 1, Kind: 2, Off: 3}
	for _, s := range []string{"", "abc"} {
		b := lent.Bytes(s)
		got := key.Put(b, k)
		if !lent.Untouched(b, s) {
			t.Errorf("Put changed what was handed in to %x", b[:cap(b)])
		}
		lent.Scribble(got)
		if !lent.Untouched(b, s) {
			t.Errorf("Put's answer shares memory with what was handed in: %x", b[:cap(b)])
		}
		got = key.Put(b, k)
		lent.Scribble(b)
		if string(got) != s+laid(k) {
			t.Errorf("a change of what was handed in shows in the answer: %x", got)
		}
	}
}

func TestTakeLeavesWhatIsHandedIn(t *testing.T) {
	good, bad := laid(api.Key{Obj: 1, Kind: 2, Off: 3}), laid(api.Key{Obj: most + 1})
	for _, s := range []string{"", good[:8], good, good + "abc", bad, bad + "abc"} {
		b := lent.Bytes(s)
		_, rest, _ := key.Take(b)
		if !lent.Untouched(b, s) {
			t.Errorf("Take changed what was handed in to %x", b[:cap(b)])
		}
		lent.Scribble(rest)
		if !lent.Untouched(b, s) {
			t.Errorf("Take's answer shares memory with what was handed in: %x", b[:cap(b)])
		}
	}
	b := lent.Bytes(good + "abc")
	k, rest, _ := key.Take(b)
	_, other, _ := key.Take(b)
	lent.Scribble(other)
	lent.Scribble(b)
	if laid(k) != good || string(rest) != "abc" {
		t.Errorf("a change of what was handed in shows in the answer: %+v, %x", k, rest)
	}
}
