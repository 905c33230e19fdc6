package lent_test

import (
	"testing"

	"cambium/lent"
)

func TestAnyChangeIsTold(t *testing.T) {
	for _, s := range []string{"", "a", "abc\x00"} {
		b := lent.Bytes(s)
		if string(b) != s || cap(b) < len(s)+256 || !lent.Untouched(b, s) {
			t.Errorf("%q: %q, %d", s, b, cap(b))
		}
		whole := b[:cap(b)]
		for i := range whole {
			whole[i] ^= 1
			if lent.Untouched(b, s) {
				t.Errorf("%q: a change at %d is not told", s, i)
			}
			whole[i] ^= 1
		}
	}
}

func TestScribbleReachesAll(t *testing.T) {
	b := lent.Bytes("abc")
	was := string(b[:cap(b)])
	lent.Scribble(b)
	for i, c := range b[:cap(b)] {
		if c == was[i] {
			t.Errorf("the byte at %d is what it was", i)
		}
	}
	lent.Scribble(nil)
}
