package name_test

import (
	"math/rand/v2"
	"slices"
	"strings"
	"testing"

	"cambium/api"
	"cambium/name"
	"cambium/super"
)

const (
	long20  = "20 bytes are a name."
	long21  = "21 bytes are too many"
	label10 = "0123456789"
)

// goodNames are valid ones, goodLabels too; badNames are told as ErrName.
var (
	goodNames  = []string{"a", "b", "note", "...", "....", ".a", "a.", "..a", "a..", ". ", " ", "-", "A", "~", "\\", "\x01", "\x7f", "\n", "\xff", "\x80", "\xc0\x80", "\xc0\xaf", "\xe2\x80", "é", "\u2044", "\u2215", "\uff0f", "\U0001f332", "\ufffd", strings.Repeat("é", 10), strings.Repeat(".", 20), long20}
	badNames   = []string{"", ".", "..", "/", "//", "a/b", "/a", "a/", "./", "../", "/..", "\x00", "a\x00", "\x00a", "a\x00b", ".\x00", "..\x00", "\xe2/", "\xe2\x80/", "\xf0\x9f\x8c/a", "\xe2\x00", "\xc3\x00", "é/", "\xff\x00", "1234567890123456789/", "/1234567890123456789", "1234567890123456789\x00", "\x001234567890123456789"}
	goodLabels = []string{"a", "z", "0", "9", "-", "home", "a-b", "--", "0-9", label10, "----------"}
	badLabels  = []string{"", "A", "Z", ".", "..", "a.b", "_", " ", "a ", "\x00", "a\x00", "é", "\xff", "a:", "`", "{", "aBc", "0123456789a", "----------------", long20, long21, strings.Repeat("a", 199)}
)

// valid is the chapter's words on a name, byte by byte.
func valid(s string) api.Errno {
	if len(s) > 20 {
		return api.ErrLong
	}
	if s == "" || s == "." || s == ".." || strings.IndexByte(s, 0) >= 0 || strings.IndexByte(s, '/') >= 0 {
		return api.ErrName
	}
	return api.OK
}

// split is the chapter's words on a path.
func split(path string) (string, []string, api.Errno) {
	switch {
	case len(path) > 200:
		return "", nil, api.ErrLong
	case len(path) == 0 || path[0] != '/':
		return "", nil, api.ErrName
	case path == "/":
		return "", nil, api.OK
	}
	parts := strings.Split(path, "/") // of which the first one is what stands ahead of the first slash
	if !super.Label(parts[1]) {
		return "", nil, api.ErrName
	}
	for _, s := range parts[2:] {
		if e := valid(s); e != api.OK {
			return "", nil, e
		}
	}
	return parts[1], parts[2:], api.OK
}

// join is the chapter's words, name by name.
func join(label string, names []string) string {
	s := "/" + label
	for _, n := range names {
		s += "/" + n
	}
	return s
}

// below is the chapter's words, name by name.
func below(names, root []string) bool {
	for i, n := range root {
		if i >= len(names) || names[i] != n {
			return false
		}
	}
	return len(names) > len(root)
}

// mayBe asks Valid of names.
func mayBe(t *testing.T, want api.Errno, l ...string) {
	t.Helper()
	for _, s := range l {
		if e := name.Valid(s); e != want {
			t.Errorf("%q: %d, not %d", s, e, want)
		}
	}
}

// splits asks Split for a label and names.
func splits(t *testing.T, path, label string, names ...string) {
	t.Helper()
	if l, n, e := name.Split(path); l != label || !slices.Equal(n, names) || e != api.OK {
		t.Fatalf("%q: %q, %q, %d, not %q, %q", path, l, n, e, label, names)
	}
}

// refuses asks Split for an error, and for nothing beside it.
func refuses(t *testing.T, want api.Errno, paths ...string) {
	t.Helper()
	for _, path := range paths {
		if l, n, e := name.Split(path); l != "" || len(n) != 0 || e != want {
			t.Fatalf("%q: %q, %q, %d, not %d", path, l, n, e, want)
		}
	}
}

// asTold holds Split against the chapter, for any path; and what it tells against Join.
func asTold(t *testing.T, path string) {
	t.Helper()
	label, names, e := split(path)
	if e != api.OK {
		refuses(t, e, path)
		return
	}
	splits(t, path, label, names...)
	if s := name.Join(label, names); s != path {
		t.Fatalf("%q: %q, %q are joined as %q", path, label, names, s)
	}
}

// every calls f with each row of at most most values of an alphabet.
func every[V any](alphabet []V, most int, f func([]V)) {
	var row []V
	var rows func()
	rows = func() {
		f(row)
		if len(row) == most {
			return
		}
		for _, v := range alphabet {
			row = append(row, v)
			rows()
			row = row[:len(row)-1]
		}
	}
	rows()
}

// rowsOf are copies of them.
func rowsOf(most int, alphabet ...string) [][]string {
	var l [][]string
	every(alphabet, most, func(row []string) { l = append(l, slices.Clone(row)) })
	return l
}

// lentNames have spare capacity, which is as little a call's own as they are; left tells whether they are still what they were.
func lentNames(names []string) []string {
	l := slices.Repeat([]string{"spare"}, len(names)+5)
	copy(l, names)
	return l[:len(names)]
}

func left(l, names []string) bool { return slices.Equal(l[:cap(l)], lentNames(names)[:cap(l)]) }

// scribble writes over all that a list can reach, so that shared memory shows.
func scribble(l []string) {
	l = l[:cap(l)]
	for i := range l {
		l[i] = "scribbled"
	}
}

// P14.1

func TestNames(t *testing.T) {
	mayBe(t, api.OK, goodNames...)
	mayBe(t, api.ErrName, badNames...)
	mayBe(t, api.ErrLong, long21, strings.Repeat("a", 22), strings.Repeat("a", 200), strings.Repeat("a", 255), strings.Repeat("a", 256), strings.Repeat("a", 256+5), strings.Repeat("a", 65536), strings.Repeat("a", 65536+5))
}

func TestLongNamesAreCountedInBytes(t *testing.T) {
	mayBe(t, api.OK, strings.Repeat("é", 10), strings.Repeat("\u20ac", 6)+"ab", strings.Repeat("\U0001f332", 5), strings.Repeat("\xff", 20), strings.Repeat("\xe2", 20))
	mayBe(t, api.ErrLong, strings.Repeat("é", 10)+"a", strings.Repeat("\u20ac", 7), strings.Repeat("\U0001f332", 5)+"a", strings.Repeat("\xff", 21))
}

func TestThatANameIsTooLongIsToldFirst(t *testing.T) {
	mayBe(t, api.ErrLong, strings.Repeat(".", 21), strings.Repeat("/", 21), strings.Repeat("\x00", 21), strings.Repeat("/", 1000))
	for at := range 21 {
		mayBe(t, api.ErrLong, long21[:at]+"/"+long21[at+1:], long21[:at]+"\x00"+long21[at+1:])
	}
}

func TestEachByteAtEachPlaceOfAName(t *testing.T) {
	for n := 1; n <= 22; n++ {
		for _, among := range []string{"a", ".", "\xe2", "\xc3", "\xf0", "\x80", "\xff"} { // some of which begin a rune of more bytes
			for at := range n {
				for c := range 256 {
					s := strings.Repeat(among, at) + string([]byte{byte(c)}) + strings.Repeat(among, n-1-at)
					mayBe(t, valid(s), s)
				}
			}
		}
	}
}

func TestAllShortNames(t *testing.T) {
	var bytes []byte
	for c := range 256 {
		bytes = append(bytes, byte(c))
	}
	every(bytes, 2, func(row []byte) { mayBe(t, valid(string(row)), string(row)) })
	every([]byte("a./\x00\xe2\x80\x84\xf0"), 5, func(row []byte) { mayBe(t, valid(string(row)), string(row)) })
}

// P14.2

func TestSplit(t *testing.T) {
	splits(t, "/data/a/b", "data", "a", "b") // the examples
	splits(t, "/", "")
	refuses(t, api.ErrName, "/data/", "home")
	splits(t, "/a", "a")
	splits(t, "/a/b/c", "a", "b", "c")
	splits(t, "/a/A", "a", "A")
	splits(t, "/-/.../..a", "-", "...", "..a")
	splits(t, "/0/\xff\xe2/é", "0", "\xff\xe2", "é")
	splits(t, "/0/\xc0\xaf/\u2044", "0", "\xc0\xaf", "\u2044") // neither is a slash
	splits(t, "/"+label10+"/"+long20, label10, long20)
	splits(t, "/a/a/a/a", "a", "a", "a", "a")
	splits(t, "/a/\xe2/b", "a", "\xe2", "b")
	splits(t, "/a/\xe2\x80/\xf0\x9f\x8c/b", "a", "\xe2\x80", "\xf0\x9f\x8c", "b")
}

func TestPathsThatDoNotBeginWithASlash(t *testing.T) {
	refuses(t, api.ErrName, "", "a", "home", "a/", "a/b", "./a", "../a", ".", " /a", "\x00/a", "\\a", "\u2044a", "\uff0fa/b", "\xe2/a", "a//", strings.Repeat("a", 200))
}

func TestPathsWithAnEmptyPart(t *testing.T) {
	refuses(t, api.ErrName, "//", "///", "//a", "//a/b", "/a/", "/a//", "/a//b", "/a/b/", "/a/b//c", "/a/b/c//", strings.Repeat("/", 200))
}

func TestLabelsInPaths(t *testing.T) {
	for _, label := range goodLabels {
		splits(t, "/"+label, label)
		splits(t, "/"+label+"/"+label+"/x", label, label, "x")
	}
	for _, label := range badLabels[1:] {
		refuses(t, api.ErrName, "/"+label)
	}
	for _, label := range badLabels[:len(badLabels)-1] { // too long a label is a wrong one: only a path and a name are too long
		refuses(t, api.ErrName, "/"+label+"/a", "/"+label+"/", "/"+label+"/a/b")
	}
	for n := 1; n < 200; n++ {
		asTold(t, "/"+strings.Repeat("a", n))
		asTold(t, "/"+strings.Repeat("a", n)+"/b")
	}
}

func TestNamesInPaths(t *testing.T) {
	for _, s := range goodNames {
		splits(t, "/a/"+s, "a", s)
		splits(t, "/a/"+s+"/b", "a", s, "b")
		splits(t, "/a/b/"+s, "a", "b", s)
	}
	for _, s := range badNames {
		for _, path := range []string{"/a/" + s, "/a/" + s + "/b", "/a/b/" + s, "/a/b/" + s + "/c"} {
			if strings.Contains(s, "/") { // which makes several names of it
				asTold(t, path)
			} else {
				refuses(t, api.ErrName, path)
			}
		}
	}
	for n := 21; n < 190; n++ {
		s := strings.Repeat("x", n)
		refuses(t, api.ErrLong, "/a/"+s, "/a/"+s+"/b", "/a/b/"+s, "/a/b/"+s+"/c")
	}
}

func TestWhichOfSeveralErrorsSplitTells(t *testing.T) {
	refuses(t, api.ErrLong, "/a/"+long21+"/", "/a/"+long21+"//b", "/a/b/"+long21+"/..", "/a/"+long21+"/\x00") // of names, that of the first one
	refuses(t, api.ErrName, "/a//"+long21, "/a/../"+long21, "/a/b/\x00/"+long21, "/a/./"+long21+"/c")
	refuses(t, api.ErrName, "//"+long21, "/A/"+long21, "/"+label10+"0/"+long21, "/"+long21+"/"+long21) // a label's ahead of a name's
	refuses(t, api.ErrLong, strings.Repeat("a", 201), strings.Repeat("/", 201), "/A"+strings.Repeat("/..", 67), strings.Repeat("\x00", 201), "home"+strings.Repeat("/a", 100))
	refuses(t, api.ErrName, "a/"+long21, "a/"+long21+"/"+long21) // what it begins with, ahead of all that follows
}

func TestLongPaths(t *testing.T) {
	whole := "/" + label10 + strings.Repeat("/"+long20, 9)
	splits(t, whole, label10, slices.Repeat([]string{long20}, 9)...)
	splits(t, "/a"+strings.Repeat("/b", 99), "a", slices.Repeat([]string{"b"}, 99)...)
	splits(t, "/ab"+strings.Repeat("/\xe2", 98), "ab", slices.Repeat([]string{"\xe2"}, 98)...) // 199 bytes
	if len(whole) != 200 {
		t.Errorf("%d bytes", len(whole))
	}
	refuses(t, api.ErrName, whole[:199]+"/", whole[1:]+"/")
	refuses(t, api.ErrLong, whole+"a", whole+"/", whole+"/a", "/ab"+strings.Repeat("/b", 99), "/a"+strings.Repeat("/b", 100), "/a/"+strings.Repeat("é", 100), strings.Repeat(whole, 1000))
	splits(t, "/a"+strings.Repeat("/"+strings.Repeat("é", 10), 9)+"/bcdefgh", "a", append(slices.Repeat([]string{strings.Repeat("é", 10)}, 9), "bcdefgh")...) // of few runes
	refuses(t, api.ErrLong, "/a"+strings.Repeat("/"+strings.Repeat("é", 10), 9)+"/bcdefghij")
	for n := range 300 { // each length, with a path that is right and with one that isn't
		asTold(t, ("/a" + strings.Repeat("/b", 150))[:n])
		asTold(t, ("/a" + strings.Repeat("/"+long20, 15))[:n])
		asTold(t, strings.Repeat("/", n))
		asTold(t, strings.Repeat("a", n))
	}
}

func TestEachByteAtEachPlaceOfAPath(t *testing.T) {
	for _, path := range []string{"/", "/a", "/home", "/data/a/b", "/a/\xe2\x80/b", "/" + label10 + "/" + long20, "/é/é", "/a/é/\u20ac", "/a/.../..", "/a//b"} {
		for at := range len(path) {
			for c := range 256 {
				asTold(t, path[:at]+string([]byte{byte(c)})+path[at+1:])
				asTold(t, path[:at]+string([]byte{byte(c)})+path[at:])
			}
			asTold(t, path[:at])
			asTold(t, path[at:])
		}
	}
}

func TestAllShortPaths(t *testing.T) {
	every([]byte("/a.\x00A-\xe2\x80"), 6, func(row []byte) {
		asTold(t, string(row))
		asTold(t, "/"+string(row))
		asTold(t, "/a/"+string(row))
	})
}

// P14.3

func TestJoin(t *testing.T) {
	for _, x := range []struct {
		label string
		names []string
		want  string
	}{
		{"a", []string{"b", "c"}, "/a/b/c"},
		{"a", nil, "/a"},
		{"a", []string{}, "/a"},
		{"", nil, "/"},
		{"home", []string{"a"}, "/home/a"},
		{"A", []string{"", "..", "a/b", "\x00"}, "/A//../a/b/\x00"}, // whatever they are
		{"", []string{""}, "//"},
		{"/", []string{"/"}, "////"},
		{long21, slices.Repeat([]string{long21}, 20), strings.Repeat("/"+long21, 21)},
	} {
		if s := name.Join(x.label, x.names); s != x.want {
			t.Errorf("%q, %q: %q", x.label, x.names, s)
		}
	}
	for _, names := range rowsOf(4, "a", "", "..", "/", "\xe2") {
		for _, label := range []string{"", "a", "/", "A"} {
			if s := name.Join(label, names); s != join(label, names) {
				t.Errorf("%q, %q: %q", label, names, s)
			}
		}
	}
	if s, want := name.Join("a", slices.Repeat([]string{"b"}, 100000)), "/a"+strings.Repeat("/b", 100000); s != want {
		t.Errorf("%d bytes", len(s))
	}
}

func TestParent(t *testing.T) {
	for _, names := range rowsOf(4, "a", "b", "", "..", "/") {
		up, last, e := name.Parent(names)
		if len(names) == 0 {
			if up != nil || last != "" || e != api.ErrArg {
				t.Errorf("none: %q, %q, %d", up, last, e)
			}
			continue
		}
		n := len(names) - 1
		if !slices.Equal(up, names[:n]) || last != names[n] || e != api.OK {
			t.Errorf("%q: %q, %q, %d", names, up, last, e)
		}
	}
	for _, none := range [][]string{nil, {}, make([]string, 0, 3), make([]string, 3)[:0]} {
		if up, last, e := name.Parent(none); len(up) != 0 || last != "" || e != api.ErrArg {
			t.Errorf("none: %q, %q, %d", up, last, e)
		}
	}
}

func TestBelow(t *testing.T) {
	for _, x := range []struct {
		names, root []string
		want        bool
	}{
		{[]string{"a", "b"}, []string{"a"}, true}, // the examples
		{[]string{"a"}, []string{"a"}, false},
		{nil, nil, false},
		{[]string{}, nil, false},
		{[]string{"a"}, nil, true},
		{[]string{""}, nil, true},
		{nil, []string{"a"}, false},
		{nil, []string{""}, false},
		{[]string{"a"}, []string{"a", "b"}, false},
		{[]string{"a", "b", "c"}, []string{"a"}, true},
		{[]string{"a", "b", "c"}, []string{"a", "b"}, true},
		{[]string{"a", "b", "c"}, []string{"b"}, false},
		{[]string{"a", "b", "c"}, []string{"a", "c"}, false},
		{[]string{"a", "b", "c"}, []string{"b", "b"}, false},
		{[]string{"ab", "c"}, []string{"a"}, false}, // names are compared as wholes
		{[]string{"a", "b"}, []string{"ab"}, false},
		{[]string{"ab", "c"}, []string{"a", "b"}, false},
		{[]string{"a", "b", "c"}, []string{"a/b"}, false},
		{[]string{"a", "b"}, []string{"A"}, false},
		{[]string{"a", "b"}, []string{""}, false},
	} {
		if is := name.Below(x.names, x.root); is != x.want {
			t.Errorf("%q, %q: %v", x.names, x.root, is)
		}
	}
	rows := rowsOf(4, "a", "b", "ab", "")
	for _, names := range rows {
		for _, root := range rows {
			if is := name.Below(names, root); is != below(names, root) {
				t.Errorf("%q, %q: %v", names, root, is)
			}
		}
	}
}

func TestNamesAreBelowTheirParent(t *testing.T) {
	for _, names := range rowsOf(4, "a", "b", "c")[1:] {
		up, last, _ := name.Parent(names)
		if !name.Below(names, up) || name.Below(up, names) || !slices.Equal(append(up, last), names) {
			t.Errorf("%q: %q, %q", names, up, last)
		}
	}
}

// P14.4

func TestWhatIsJoinedIsSplit(t *testing.T) {
	for _, label := range goodLabels {
		for _, names := range rowsOf(2, goodNames...) {
			splits(t, name.Join(label, names), label, names...)
		}
	}
	r := rand.New(rand.NewPCG(14, 4))
	for range 50000 {
		label := goodLabels[r.IntN(len(goodLabels))]
		var names []string
		for range r.IntN(16) {
			names = append(names, anyName(r))
		}
		path := name.Join(label, names)
		if len(path) > 200 {
			refuses(t, api.ErrLong, path)
		} else {
			splits(t, path, label, names...)
		}
	}
}

// anyName is a valid one, of any bytes.
func anyName(r *rand.Rand) string {
	for {
		b := make([]byte, 1+r.IntN(20))
		for i := range b {
			b[i] = byte(r.IntN(256))
		}
		if valid(string(b)) == api.OK {
			return string(b)
		}
	}
}

func TestAnyPath(t *testing.T) {
	const bytes = "///aaaab-09.\x00\xc3\xa9\xe2A~"
	r := rand.New(rand.NewPCG(14, 2))
	for range 200000 {
		b := make([]byte, r.IntN(210))
		for i := range b {
			b[i] = bytes[r.IntN(len(bytes))]
		}
		asTold(t, string(b))
		asTold(t, "/a/"+strings.ReplaceAll(string(b), "//", "/b/")) // which is a path the more often
	}
}

// R6 and R7

func TestTheSameAgain(t *testing.T) {
	label, names, _ := name.Split("/data/a/b")
	scribble(names)
	up, last, _ := name.Parent([]string{"a", "b"})
	scribble(up)
	name.Split("/a/")
	name.Split("/a/" + long21)
	name.Valid("/")
	name.Join("a", []string{"x"})
	splits(t, "/data/a/b", "data", "a", "b")
	if s := name.Join("data", []string{"a", "b"}); s != "/data/a/b" || label != "data" || last != "b" {
		t.Errorf("%q, %q, %q", s, label, last)
	}
}

func TestAnswersAreTheCallers(t *testing.T) {
	_, one, _ := name.Split("/data/a/b")
	_, two, _ := name.Split("/data/a/b")
	scribble(one)
	if !slices.Equal(two, []string{"a", "b"}) {
		t.Errorf("two answers share memory: %q", two)
	}
}

func TestNamesThatAreHandedInAreLeft(t *testing.T) {
	for _, names := range rowsOf(3, "a", "b") {
		l, root := lentNames(names), lentNames(names[:len(names)/2])
		name.Join("home", l)
		name.Below(l, root)
		name.Below(root, l)
		up, _, e := name.Parent(l)
		if !left(l, names) || !left(root, names[:len(names)/2]) {
			t.Fatalf("%q became %q, %q", names, l[:cap(l)], root[:cap(root)])
		}
		want := slices.Clone(up)
		_ = append(up, "more")
		scribble(up)
		if !left(l, names) {
			t.Fatalf("%q, %d: the answer shares memory with what was handed in: %q", names, e, l[:cap(l)])
		}
		up, _, _ = name.Parent(l)
		scribble(l)
		if !slices.Equal(up, want) {
			t.Fatalf("%q: a change of what was handed in shows: %q", names, up)
		}
	}
}

func TestWhatIsSpareIsNotTaken(t *testing.T) {
	whole := []string{"a", "b", "c"}
	for n := range whole {
		l := whole[:n]
		if s := name.Join("home", l); s != join("home", l) {
			t.Errorf("%q: %q", l, s)
		}
		if name.Below(l, whole) || name.Below(l, l) || !name.Below(whole, l) {
			t.Errorf("%q: below", l)
		}
	}
}
