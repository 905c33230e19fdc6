package num_test

import (
	"bytes"
	"math"
	"strings"
	"testing"

	"cambium/api"
	"cambium/lent"
	"cambium/num"
)

// untouched tells of what was handed in and is no longer what it was.
func untouched(t *testing.T, what string, b []byte, s string) {
	t.Helper()
	if !lent.Untouched(b, s) {
		t.Errorf("%s: what was handed in became %x", what, b[:cap(b)])
	}
}

// P1.1

func TestPut(t *testing.T) {
	for _, x := range []struct {
		name string
		x, n int
		want string
	}{
		{"two bytes", 258, 2, "\x01\x02"},
		{"the lowest byte alone", 258, 1, "\x02"},
		{"noughts ahead", 258, 4, "\x00\x00\x01\x02"},
		{"nought", 0, 3, "\x00\x00\x00"},
		{"one byte, its greatest", 255, 1, "\xff"},
		{"one more than a byte holds", 256, 1, "\x00"},
		{"seven bytes", 0x01020304050607, 7, "\x01\x02\x03\x04\x05\x06\x07"},
		{"seven of eight bytes", 0x7102030405060708, 7, "\x02\x03\x04\x05\x06\x07\x08"},
		{"eight bytes", 0x7102030405060708, 8, "\x71\x02\x03\x04\x05\x06\x07\x08"},
		{"the greatest int", math.MaxInt, 8, "\x7f\xff\xff\xff\xff\xff\xff\xff"},
		{"minus one, one byte", -1, 1, "\xff"},
		{"minus one, seven bytes", -1, 7, "\xff\xff\xff\xff\xff\xff\xff"},
		{"minus one, eight bytes", -1, 8, "\xff\xff\xff\xff\xff\xff\xff\xff"},
		{"minus two", -2, 3, "\xff\xff\xfe"},
		{"minus 256", -256, 2, "\xff\x00"},
		{"the least int", math.MinInt, 8, "\x80\x00\x00\x00\x00\x00\x00\x00"},
		{"the least int, seven bytes", math.MinInt, 7, "\x00\x00\x00\x00\x00\x00\x00"},
		{"no bytes", 5, 0, ""},
		{"nine bytes", 5, 9, ""},
		{"fewer than no bytes", 5, -1, ""},
		{"very many bytes", 5, math.MaxInt, ""},
		{"very few bytes", 5, math.MinInt, ""},
	} {
		for _, ahead := range []string{"", "a", "ab\x00"} {
			if got := num.Put([]byte(ahead), x.x, x.n); string(got) != ahead+x.want {
				t.Errorf("%s behind %q: %x, not %x", x.name, ahead, got, ahead+x.want)
			}
		}
		if got := num.Put(nil, x.x, x.n); string(got) != x.want {
			t.Errorf("%s behind none: %x, not %x", x.name, got, x.want)
		}
	}
}

func TestTake(t *testing.T) {
	const b = "\x01\x02\x03\x04\x05\x06\x07\x08\x09"
	for n, want := range []int{1: 0x01, 0x0102, 0x010203, 0x01020304, 0x0102030405, 0x010203040506, 0x01020304050607} {
		if n == 0 {
			continue
		}
		if x, rest, e := num.Take([]byte(b), n); x != want || string(rest) != b[n:] || e != api.OK {
			t.Errorf("%d bytes: %x, %x, %d", n, x, rest, e)
		}
		if x, rest, e := num.Take([]byte(b[:n]), n); x != want || len(rest) != 0 || e != api.OK {
			t.Errorf("%d bytes and none behind: %x, %x, %d", n, x, rest, e)
		}
	}
	if x, _, e := num.Take([]byte(strings.Repeat("\xff", 7)), 7); x != 1<<56-1 || e != api.OK {
		t.Errorf("the greatest of 7 bytes: %x, %d", x, e)
	}
}

func TestTakeRefuses(t *testing.T) {
	for _, x := range []struct {
		name string
		b    []byte
		n    int
		want api.Errno
	}{
		{"no bytes asked for", make([]byte, 9), 0, api.ErrArg},
		{"eight bytes asked for", make([]byte, 9), 8, api.ErrArg},
		{"nine bytes asked for", make([]byte, 9), 9, api.ErrArg},
		{"fewer than none asked for", make([]byte, 9), -1, api.ErrArg},
		{"very many asked for", make([]byte, 9), math.MaxInt, api.ErrArg},
		{"very few asked for", make([]byte, 9), math.MinInt, api.ErrArg},
		{"ErrArg ahead of ErrShort, eight", nil, 8, api.ErrArg},
		{"ErrArg ahead of ErrShort, nine", []byte{1}, 9, api.ErrArg},
		{"none there", nil, 1, api.ErrShort},
		{"an empty list", []byte{}, 7, api.ErrShort},
		{"one too few of two", []byte{1}, 2, api.ErrShort},
		{"one too few of seven", make([]byte, 6), 7, api.ErrShort},
		{"enough in the spare capacity alone", make([]byte, 1, 9), 2, api.ErrShort},
	} {
		if n, rest, e := num.Take(x.b, x.n); n != 0 || rest != nil || e != x.want {
			t.Errorf("%s: %d, %x, %d, not %d", x.name, n, rest, e, x.want)
		}
	}
}

// P1.2

func TestPutText(t *testing.T) {
	full := strings.Repeat("x", 255)
	for _, x := range []struct{ name, ahead, s, want string }{
		{"a text", "", "ab", "\x02ab"},
		{"behind others", "q\x00", "ab", "q\x00\x02ab"},
		{"an empty one", "", "", "\x00"},
		{"an empty one behind others", "q", "", "q\x00"},
		{"bytes that are no runes", "", "\x00\xff\x80", "\x03\x00\xff\x80"},
		{"a rune of three bytes", "", "\u20ac", "\x03\xe2\x82\xac"},
		{"255 bytes", "", full, "\xff" + full},
		{"255 bytes behind others", "q", full, "q\xff" + full},
	} {
		if got, e := num.PutText([]byte(x.ahead), x.s); string(got) != x.want || e != api.OK {
			t.Errorf("%s: %x, %d", x.name, got, e)
		}
	}
	for _, n := range []int{256, 257, 512, 65536} {
		if got, e := num.PutText([]byte("q"), strings.Repeat("x", n)); got != nil || e != api.ErrLong {
			t.Errorf("%d bytes: %d bytes, %d", n, len(got), e)
		}
	}
}

func TestTakeText(t *testing.T) {
	full := strings.Repeat("x", 255)
	for _, x := range []struct{ name, b, s, rest string }{
		{"a text alone", "\x02ab", "ab", ""},
		{"a text and more", "\x02abc\x00", "ab", "c\x00"},
		{"an empty one", "\x00", "", ""},
		{"an empty one and more", "\x00\x01\x02", "", "\x01\x02"},
		{"bytes that are no runes", "\x02\x00\xff", "\x00\xff", ""},
		{"255 bytes", "\xff" + full, full, ""},
		{"255 bytes and more", "\xff" + full + "y", full, "y"},
	} {
		if s, rest, e := num.TakeText([]byte(x.b)); s != x.s || string(rest) != x.rest || e != api.OK {
			t.Errorf("%s: %q, %x, %d", x.name, s, rest, e)
		}
	}
	for _, b := range [][]byte{nil, {}, {1}, {2, 'a'}, []byte("\xff" + full[1:]), append(make([]byte, 0, 9), 1), []byte("\x02ab")[:2]} {
		if s, rest, e := num.TakeText(b); s != "" || rest != nil || e != api.ErrShort {
			t.Errorf("%x: %q, %x, %d", b, s, rest, e)
		}
	}
}

// P1.3

func TestPutBytes(t *testing.T) {
	full := strings.Repeat("x", 65535)
	for _, x := range []struct{ name, ahead, x, want string }{
		{"three bytes", "", "xyz", "\x00\x03xyz"},
		{"behind others", "q\x00", "xyz", "q\x00\x00\x03xyz"},
		{"none", "", "", "\x00\x00"},
		{"none behind others", "q", "", "q\x00\x00"},
		{"255 bytes", "", full[:255], "\x00\xff" + full[:255]},
		{"256 bytes", "", full[:256], "\x01\x00" + full[:256]},
		{"258 bytes", "", full[:258], "\x01\x02" + full[:258]},
		{"65535 bytes", "", full, "\xff\xff" + full},
		{"65535 bytes behind others", "q", full, "q\xff\xff" + full},
	} {
		if got, e := num.PutBytes([]byte(x.ahead), []byte(x.x)); string(got) != x.want || e != api.OK {
			t.Errorf("%s: %d bytes, %d", x.name, len(got), e)
		}
	}
	if got, e := num.PutBytes(nil, nil); string(got) != "\x00\x00" || e != api.OK {
		t.Errorf("none at all: %x, %d", got, e)
	}
	for _, n := range []int{65536, 65537, 131072} {
		if got, e := num.PutBytes([]byte("q"), make([]byte, n)); got != nil || e != api.ErrLong {
			t.Errorf("%d bytes: %d bytes, %d", n, len(got), e)
		}
	}
}

func TestTakeBytes(t *testing.T) {
	full := strings.Repeat("x", 65535)
	for _, x := range []struct{ name, b, x, rest string }{
		{"bytes alone", "\x00\x03xyz", "xyz", ""},
		{"bytes and more", "\x00\x03xyz\x00\x01", "xyz", "\x00\x01"},
		{"none", "\x00\x00", "", ""},
		{"none and more", "\x00\x00\x01\x02", "", "\x01\x02"},
		{"258 bytes and more", "\x01\x02" + full[:258] + "y", full[:258], "y"},
		{"65535 bytes", "\xff\xff" + full, full, ""},
		{"65535 bytes and more", "\xff\xff" + full + "y", full, "y"},
	} {
		if got, rest, e := num.TakeBytes([]byte(x.b)); string(got) != x.x || string(rest) != x.rest || e != api.OK {
			t.Errorf("%s: %d bytes, %d bytes, %d", x.name, len(got), len(rest), e)
		}
	}
	for _, b := range [][]byte{nil, {}, {0}, {1}, {0, 1}, {0, 3, 'x', 'y'}, {1, 0, 'x'}, []byte("\xff\xff" + full[1:]), append(make([]byte, 0, 9), 0), append(make([]byte, 0, 9), 0, 1)} {
		if got, rest, e := num.TakeBytes(b); got != nil || rest != nil || e != api.ErrShort {
			t.Errorf("%d bytes: %d bytes, %d bytes, %d", len(b), len(got), len(rest), e)
		}
	}
}

// P1.4

func TestNumbersAreReadAsTheyWere(t *testing.T) {
	for n := 1; n <= 7; n++ {
		most := 1<<(8*n) - 1
		xs := []int{0, 1, most / 2, most/2 + 1, most - 1, most}
		for bit := range 8 * n {
			xs = append(xs, 1<<bit, most^1<<bit)
		}
		if n <= 2 {
			for x := range most {
				xs = append(xs, x)
			}
		}
		for _, x := range xs {
			for _, behind := range []string{"", "\x00", "\xff\x01"} {
				b := append(num.Put(nil, x, n), behind...)
				if got, rest, e := num.Take(b, n); got != x || string(rest) != behind || e != api.OK {
					t.Fatalf("%d in %d bytes: %d, %x, %d", x, n, got, rest, e)
				}
			}
		}
	}
}

func TestTextsAreReadAsTheyWere(t *testing.T) {
	every := make([]byte, 256)
	for i := range every {
		every[i] = byte(i)
	}
	for n := range 256 {
		s := string(every[256-n:])
		for _, behind := range []string{"", "\x00", "\x05ab", "\xff\xff\xff"} {
			b, e := num.PutText(nil, s)
			got, rest, f := num.TakeText(append(b, behind...))
			if got != s || string(rest) != behind || e != api.OK || f != api.OK {
				t.Fatalf("a text of %d bytes: %x, %x, %d, %d", n, got, rest, e, f)
			}
		}
	}
}

func TestBytesAreReadAsTheyWere(t *testing.T) {
	every := make([]byte, 65535)
	for i := range every {
		every[i] = byte(i * 7)
	}
	for _, n := range []int{0, 1, 2, 255, 256, 257, 258, 32767, 32768, 65280, 65534, 65535} {
		for _, behind := range []string{"", "\x00", "\x00\x05ab", "\xff\xff\xff"} {
			b, e := num.PutBytes(nil, every[:n])
			got, rest, f := num.TakeBytes(append(b, behind...))
			if !bytes.Equal(got, every[:n]) || string(rest) != behind || e != api.OK || f != api.OK {
				t.Fatalf("%d bytes: %d bytes, %x, %d, %d", n, len(got), rest, e, f)
			}
		}
	}
}

func TestOneBehindAnother(t *testing.T) {
	b := num.Put(nil, 70000, 3)
	b, _ = num.PutText(b, "ab")
	b, _ = num.PutBytes(b, []byte{0, 9})
	b = num.Put(b, 7, 1)
	x, b, _ := num.Take(b, 3)
	s, b, _ := num.TakeText(b)
	y, b, _ := num.TakeBytes(b)
	z, b, e := num.Take(b, 1)
	if x != 70000 || s != "ab" || string(y) != "\x00\x09" || z != 7 || len(b) != 0 || e != api.OK {
		t.Error(x, s, y, z, b, e)
	}
}

func TestWhatIsCutIsShort(t *testing.T) {
	text, _ := num.PutText(nil, "twelve bytes")
	list, _ := num.PutBytes(nil, []byte("twelve bytes"))
	for n := range text {
		if _, _, e := num.TakeText(text[:n]); e != api.ErrShort {
			t.Errorf("%d bytes of a text: %d", n, e)
		}
	}
	for n := range list {
		if _, _, e := num.TakeBytes(list[:n]); e != api.ErrShort {
			t.Errorf("%d bytes of a byte string: %d", n, e)
		}
	}
}

// R7

func TestPutLeavesWhatIsHandedIn(t *testing.T) {
	for _, n := range []int{-1, 0, 1, 7, 8, 9} {
		b := lent.Bytes("abc")
		got := num.Put(b, 258, n)
		untouched(t, "Put", b, "abc")
		lent.Scribble(got)
		untouched(t, "Put's answer", b, "abc")
	}
	b, x := lent.Bytes("abc"), lent.Bytes("xyz")
	got, _ := num.PutBytes(b, x)
	untouched(t, "PutBytes, ahead", b, "abc")
	untouched(t, "PutBytes, behind", x, "xyz")
	lent.Scribble(got)
	untouched(t, "PutBytes' answer, ahead", b, "abc")
	untouched(t, "PutBytes' answer, behind", x, "xyz")
	got, _ = num.PutText(b, "xyz")
	untouched(t, "PutText", b, "abc")
	lent.Scribble(got)
	untouched(t, "PutText's answer", b, "abc")
	num.PutText(b, strings.Repeat("x", 256))
	num.PutBytes(b, make([]byte, 65536))
	untouched(t, "what is too long", b, "abc")
}

func TestTakeLeavesWhatIsHandedIn(t *testing.T) {
	const s = "\x00\x01abcd"
	b := lent.Bytes(s)
	_, rest, _ := num.Take(b, 2)
	untouched(t, "Take", b, s)
	lent.Scribble(rest)
	untouched(t, "Take's answer", b, s)
	_, rest, _ = num.TakeText(b)
	untouched(t, "TakeText", b, s)
	lent.Scribble(rest)
	untouched(t, "TakeText's answer", b, s)
	x, rest, _ := num.TakeBytes(b)
	untouched(t, "TakeBytes", b, s)
	lent.Scribble(x)
	if string(rest) != "bcd" {
		t.Errorf("the two answers of TakeBytes share memory: %x", rest)
	}
	lent.Scribble(rest)
	untouched(t, "TakeBytes' answer", b, s)
	num.Take(b, 8)
	num.TakeText([]byte(s)[1:2])
	untouched(t, "what is refused", b, s)
}

func TestAnswersAreKeptFromLaterChanges(t *testing.T) {
	b, x, c := lent.Bytes("\x00\x01abcd"), lent.Bytes("xyz"), lent.Bytes("\x02abcd")
	put := num.Put(b, 7, 1)
	same := num.Put(b, 7, 0)
	text, _ := num.PutText(b, "q")
	list, _ := num.PutBytes(b, x)
	_, rest, _ := num.Take(b, 2)
	took, behind, _ := num.TakeBytes(b)
	s, after, _ := num.TakeText(c)
	one, _, _ := num.TakeText(b[1:])
	lent.Scribble(b)
	lent.Scribble(x)
	lent.Scribble(c)
	for i, y := range [][2]string{
		{string(put), "\x00\x01abcd\x07"}, {string(same), "\x00\x01abcd"}, {string(text), "\x00\x01abcd\x01q"},
		{string(list), "\x00\x01abcd\x00\x03xyz"}, {string(rest), "abcd"}, {string(took), "a"},
		{string(behind), "bcd"}, {s, "ab"}, {string(after), "cd"}, {one, "a"},
	} {
		if y[0] != y[1] {
			t.Errorf("%d: %x, not %x", i, y[0], y[1])
		}
	}
}

func TestTwoBehindTheSame(t *testing.T) {
	b := num.Put(nil, 1, 1)
	one, two := num.Put(b, 2, 1), num.Put(b, 3, 1)
	if string(one) != "\x01\x02" || string(two) != "\x01\x03" {
		t.Errorf("%x, %x", one, two)
	}
}
