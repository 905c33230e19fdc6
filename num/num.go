// Package num is layer 1: numbers and texts in bytes: see shared/doc/01-num.md.
package num

import "cambium/api"

const (
	maxPut  = 8 // bytes of an int
	maxTake = 7 // a number of 8 bytes might not fit in an int

	textWidth  = 1 // bytes of a text's length
	bytesWidth = 2 // bytes of a byte string's length
	maxText    = 1<<(8*textWidth) - 1
	maxBytes   = 1<<(8*bytesWidth) - 1
)

// Put lays a number behind bytes, Take takes one off their front.
func Put(b []byte, x, n int) []byte {
	if n < 1 || n > maxPut {
		return join(b)
	}
	return join(b, digits(x, n))
}

func Take(b []byte, n int) (int, []byte, api.Errno) {
	if n < 1 || n > maxTake {
		return 0, nil, api.ErrArg
	}
	if len(b) < n {
		return 0, nil, api.ErrShort
	}
	return number(b[:n]), join(b[n:]), api.OK
}

// PutText and TakeText do so with a text, PutBytes and TakeBytes with bytes.
func PutText(b []byte, s string) ([]byte, api.Errno) {
	if len(s) > maxText {
		return nil, api.ErrLong
	}
	return join(b, digits(len(s), textWidth), []byte(s)), api.OK
}

func TakeText(b []byte) (string, []byte, api.Errno) {
	x, rest, whole := split(b, textWidth)
	if !whole {
		return "", nil, api.ErrShort
	}
	return string(x), join(rest), api.OK
}

func PutBytes(b, x []byte) ([]byte, api.Errno) {
	if len(x) > maxBytes {
		return nil, api.ErrLong
	}
	return join(b, digits(len(x), bytesWidth), x), api.OK
}

func TakeBytes(b []byte) ([]byte, []byte, api.Errno) {
	x, rest, whole := split(b, bytesWidth)
	if !whole {
		return nil, nil, api.ErrShort
	}
	return join(x), join(rest), api.OK
}

// join always copies: an answer must not share memory with what was handed in, nor write into its spare capacity.
func join(parts ...[]byte) []byte {
	n := 0
	for _, p := range parts {
		n += len(p)
	}
	whole := make([]byte, 0, n)
	for _, p := range parts {
		whole = append(whole, p...)
	}
	return whole
}

// split cuts b behind the bytes whose length its first width bytes tell. Both parts are still b's memory: whoever hands them on copies them.
func split(b []byte, width int) (x, rest []byte, whole bool) {
	if len(b) < width {
		return nil, nil, false
	}
	end := width + number(b[:width])
	if len(b) < end {
		return nil, nil, false
	}
	return b[width:end], b[end:], true
}

// digits shifts the sign along, which gives a negative x the bytes of 2^64 + x.
func digits(x, n int) []byte {
	d := make([]byte, n)
	for i := range d {
		d[n-1-i] = byte(x >> (8 * i))
	}
	return d
}

func number(d []byte) int {
	x := 0
	for _, c := range d {
		x = x<<8 | int(c)
	}
	return x
}
