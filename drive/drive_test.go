package drive_test

import (
	"bytes"
	"math"
	"slices"
	"testing"

	"cambium/api"
	"cambium/drive"
	"cambium/lent"
)

// full is a sector of one byte, again and again.
func full(c byte) []byte { return bytes.Repeat([]byte{c}, api.Sector) }

// mixed is a sector in which no two pieces are alike; another one for each x.
func mixed(x int) []byte {
	b := make([]byte, api.Sector)
	r := uint32(x)*2654435761 + 1
	for i := range b {
		r = r*1664525 + 1013904223
		b[i] = byte(r>>24) ^ byte(i)
	}
	return b
}

func made(t *testing.T, n int) *drive.Drive {
	t.Helper()
	d, e := drive.New(n)
	if d == nil || e != api.OK {
		t.Fatalf("New(%d): %v, %d", n, d, e)
	}
	return d
}

func write(t *testing.T, d *drive.Drive, s int, b []byte) {
	t.Helper()
	if e := d.Write(s, b); e != api.OK {
		t.Fatalf("Write(%d): %d", s, e)
	}
}

func flush(t *testing.T, d *drive.Drive) {
	t.Helper()
	if e := d.Flush(); e != api.OK {
		t.Fatalf("Flush: %d", e)
	}
}

func holds(t *testing.T, d *drive.Drive, s int, want []byte) {
	t.Helper()
	b, e := d.Read(s)
	if e != api.OK || !bytes.Equal(b, want) {
		t.Errorf("Read(%d): %x, %d, not %x", s, b, e, want)
	}
}

// is holds what a drive tells of itself against what it should.
func is(t *testing.T, d *drive.Drive, on bool, cached, steps int) {
	t.Helper()
	if d.On() != on || d.Cached() != cached || d.Steps() != steps {
		t.Errorf("on %v, %d cached, %d steps, not %v, %d, %d", d.On(), d.Cached(), d.Steps(), on, cached, steps)
	}
}

// unplugged is a drive of 32 sectors whose power went off at a flush: sector 3 has twos that are durable and ones that are cached.
func unplugged(t *testing.T) *drive.Drive {
	t.Helper()
	d := made(t, 32)
	write(t, d, 3, full(2))
	flush(t, d)
	write(t, d, 3, full(1))
	d.Fuse(0)
	if e := d.Flush(); e != api.ErrPower || d.On() {
		t.Fatalf("a fuse without steps: %d, on %v", e, d.On())
	}
	return d
}

// P3.1

func TestHowManySectors(t *testing.T) {
	for _, n := range []int{math.MinInt, -32, -1, 0, 1, 31, 2049, 4096, 1 << 40, math.MaxInt} {
		if d, e := drive.New(n); d != nil || e != api.ErrArg {
			t.Errorf("New(%d): %v, %d", n, d, e)
		}
	}
	for _, n := range []int{32, 33, 100, 2047, 2048} {
		if d := made(t, n); d.Size() != n {
			t.Errorf("New(%d): of the size %d", n, d.Size())
		}
	}
}

func TestANewDrive(t *testing.T) {
	for _, n := range []int{32, 2048} {
		d := made(t, n)
		is(t, d, true, 0, 0)
		for s := range n {
			holds(t, d, s, full(0))
		}
		d.Crash([]int{1, 1, 1})
		for s := range n {
			holds(t, d, s, full(0))
		}
		is(t, d, true, 0, 0)
	}
}

func TestTwoDrivesHaveNothingInCommon(t *testing.T) {
	a, b := made(t, 32), made(t, 32)
	write(t, a, 3, full(1))
	holds(t, b, 3, full(0))
	is(t, b, true, 0, 0)
}

func TestTheSizeStays(t *testing.T) {
	d := made(t, 40)
	write(t, d, 39, full(1))
	flush(t, d)
	write(t, d, 39, full(2))
	d.Crash(nil)
	d.Fuse(0)
	d.Flush()
	if d.Size() != 40 || d.Clone().Size() != 40 {
		t.Errorf("%d sectors, %d of the clone", d.Size(), d.Clone().Size())
	}
}

// P3.2

func TestReadTellsTheLastWrite(t *testing.T) {
	d := made(t, 32)
	for i := range 5 {
		write(t, d, 3, mixed(i))
		holds(t, d, 3, mixed(i))
	}
	holds(t, d, 2, full(0))
	holds(t, d, 4, full(0))
	flush(t, d)
	holds(t, d, 3, mixed(4))
	write(t, d, 3, full(9))
	holds(t, d, 3, full(9))
}

func TestFirstAndLastSector(t *testing.T) {
	for _, n := range []int{32, 33, 2048} {
		d := made(t, n)
		write(t, d, 0, mixed(1))
		write(t, d, n-1, mixed(2))
		holds(t, d, 0, mixed(1))
		holds(t, d, n-1, mixed(2))
		holds(t, d, 1, full(0))
		holds(t, d, n-2, full(0))
		flush(t, d)
		d.Crash(nil)
		holds(t, d, 0, mixed(1))
		holds(t, d, n-1, mixed(2))
	}
}

func TestNoSuchSector(t *testing.T) {
	for _, n := range []int{32, 2048} {
		d := made(t, n)
		for _, s := range []int{math.MinInt, -n, -1, n, n + 1, math.MaxInt} {
			if b, e := d.Read(s); b != nil || e != api.ErrArg {
				t.Errorf("Read(%d) of %d: %x, %d", s, n, b, e)
			}
			if e := d.Write(s, full(1)); e != api.ErrArg {
				t.Errorf("Write(%d) of %d: %d", s, n, e)
			}
		}
		is(t, d, true, 0, 0)
		for s := range n {
			holds(t, d, s, full(0))
		}
	}
}

func TestHowManyBytes(t *testing.T) {
	d := made(t, 32)
	for _, n := range []int{0, 1, 255, 257, 512} {
		if e := d.Write(3, bytes.Repeat([]byte{1}, n)); e != api.ErrArg {
			t.Errorf("%d bytes: %d", n, e)
		}
	}
	if e := d.Write(3, nil); e != api.ErrArg {
		t.Errorf("nil: %d", e)
	}
	is(t, d, true, 0, 0)
	holds(t, d, 3, full(0))
	write(t, d, 3, full(1))
	is(t, d, true, 1, 1)
}

func TestFlushMakesTheLastWritesDurable(t *testing.T) {
	d := made(t, 32)
	write(t, d, 3, full(1))
	write(t, d, 4, full(2))
	write(t, d, 3, full(3))
	flush(t, d)
	is(t, d, true, 0, 4)
	d.Crash([]int{1, 1})
	holds(t, d, 3, full(3))
	holds(t, d, 4, full(2))
	holds(t, d, 5, full(0))
}

func TestFlushOfAllSectors(t *testing.T) {
	d := made(t, 2048)
	for s := range 2048 {
		write(t, d, s, mixed(s))
	}
	is(t, d, true, 2048, 2048)
	flush(t, d)
	is(t, d, true, 0, 2049)
	d.Crash(nil)
	for s := range 2048 {
		holds(t, d, s, mixed(s))
	}
}

func TestFlushOfNothing(t *testing.T) {
	d := made(t, 32)
	flush(t, d)
	flush(t, d)
	is(t, d, true, 0, 2)
	holds(t, d, 3, full(0))
}

func TestAWriteOfNoughtsIsCachedToo(t *testing.T) {
	d := made(t, 32)
	write(t, d, 3, full(0))
	is(t, d, true, 1, 1)
}

func TestWithoutPower(t *testing.T) {
	d := unplugged(t)
	for _, s := range []int{0, 3, 31, -1, 32, math.MinInt, math.MaxInt} { // power is told of ahead of the sector
		if b, e := d.Read(s); b != nil || e != api.ErrPower {
			t.Errorf("Read(%d): %x, %d", s, b, e)
		}
	}
	if e := d.Write(3, full(5)); e != api.ErrPower {
		t.Errorf("Write: %d", e)
	}
	if e := d.Flush(); e != api.ErrPower {
		t.Errorf("Flush: %d", e)
	}
	for _, x := range []struct{ s, n int }{{-1, 256}, {32, 256}, {3, 255}, {3, 257}, {3, 0}, {-1, 255}} { // and behind what a write is given
		if e := d.Write(x.s, make([]byte, x.n)); e != api.ErrArg {
			t.Errorf("Write(%d) of %d bytes: %d", x.s, x.n, e)
		}
	}
	is(t, d, false, 1, 3)
	if d.Size() != 32 {
		t.Errorf("%d sectors", d.Size())
	}
	d.Crash([]int{1, 1})
	holds(t, d, 3, full(1))
}

// P3.3

func TestSteps(t *testing.T) {
	d := made(t, 32)
	write(t, d, 3, full(1))
	is(t, d, true, 1, 1)
	d.Read(3)
	d.Read(99)
	d.Write(99, full(1))
	d.Write(3, nil)
	d.Corrupt(3, 0, 1)
	d.Size()
	d.Clone().Flush()
	d.Fuse(7)
	is(t, d, true, 1, 1)
	flush(t, d)
	is(t, d, true, 0, 2)
	d.Crash(nil)
	is(t, d, true, 0, 2)
	write(t, d, 3, full(1))
	is(t, d, true, 1, 3)
}

func TestCachedCountsSectors(t *testing.T) {
	d := made(t, 32)
	for i := range 4 {
		write(t, d, 3, full(byte(i)))
		is(t, d, true, 1, i+1)
	}
	write(t, d, 4, full(1))
	write(t, d, 0, full(1))
	is(t, d, true, 3, 6)
	d.Read(7)
	d.Corrupt(8, 0, 1)
	is(t, d, true, 3, 6)
	d.Crash([]int{4, 0, 1})
	is(t, d, true, 0, 6)
}

func TestAFuse(t *testing.T) {
	for n := range 6 {
		d := made(t, 32)
		d.Fuse(n)
		for i := range n {
			write(t, d, i, full(1))
			is(t, d, true, i+1, i+1)
		}
		if e := d.Write(20, full(1)); e != api.ErrPower {
			t.Errorf("Fuse(%d), the write behind it: %d", n, e)
		}
		is(t, d, false, n, n)
		d.Crash([]int{1, 1, 1, 1, 1, 1})
		for s := range 32 {
			holds(t, d, s, full(one(s < n)))
		}
		is(t, d, true, 0, n)
	}
}

func one(b bool) byte {
	if b {
		return 1
	}
	return 0
}

func TestAFlushBurnsAFuseToo(t *testing.T) {
	d := made(t, 32)
	write(t, d, 3, full(1))
	d.Fuse(1)
	flush(t, d)
	if e := d.Flush(); e != api.ErrPower || d.On() {
		t.Errorf("%d, on %v", e, d.On())
	}
	d.Crash(nil)
	holds(t, d, 3, full(1))
}

func TestAFlushWithoutStepsDoesNothing(t *testing.T) {
	d := unplugged(t)
	is(t, d, false, 1, 3)
	d.Crash(nil)
	holds(t, d, 3, full(2))
}

func TestTheFuseAloneLeavesThePowerOn(t *testing.T) {
	d := made(t, 32)
	write(t, d, 3, full(1))
	d.Fuse(0)
	is(t, d, true, 1, 1)
	holds(t, d, 3, full(1))
	if b, e := d.Read(32); b != nil || e != api.ErrArg {
		t.Errorf("Read(32): %x, %d", b, e)
	}
	if e := d.Corrupt(4, 0, 1); e != api.OK {
		t.Errorf("Corrupt: %d", e)
	}
	is(t, d, true, 1, 1)
}

func TestAWrongWriteBurnsNoFuse(t *testing.T) {
	d := made(t, 32)
	d.Fuse(0)
	for _, e := range []api.Errno{d.Write(-1, full(1)), d.Write(32, full(1)), d.Write(3, full(1)[1:]), d.Write(3, nil)} {
		if e != api.ErrArg {
			t.Errorf("%d", e)
		}
	}
	is(t, d, true, 0, 0)
	d.Fuse(1)
	d.Write(32, full(1))
	write(t, d, 3, full(1))
	if e := d.Write(3, full(1)); e != api.ErrPower {
		t.Errorf("%d", e)
	}
}

func TestANegativeFuseIsNone(t *testing.T) {
	for _, n := range []int{-1, -2, math.MinInt} {
		d := made(t, 32)
		d.Fuse(n)
		write(t, d, 3, full(1))
		d.Fuse(1)
		write(t, d, 3, full(2))
		d.Fuse(n)
		for range 9 {
			flush(t, d)
		}
		is(t, d, true, 0, 11)
	}
}

func TestTheLastFuseCounts(t *testing.T) {
	d := made(t, 32)
	d.Fuse(1)
	d.Fuse(3)
	for range 3 {
		flush(t, d)
	}
	d.Fuse(2)
	flush(t, d)
	d.Fuse(0)
	if e := d.Flush(); e != api.ErrPower {
		t.Errorf("%d", e)
	}
	is(t, d, false, 0, 4)
}

func TestAGreatFuse(t *testing.T) {
	d := made(t, 32)
	d.Fuse(math.MaxInt)
	for range 3 {
		flush(t, d)
	}
	is(t, d, true, 0, 3)
}

func TestAFuseBringsNoPowerBack(t *testing.T) {
	for _, n := range []int{-1, 0, 5} {
		d := unplugged(t)
		d.Fuse(n)
		if e := d.Write(3, full(7)); e != api.ErrPower {
			t.Errorf("Fuse(%d): %d", n, e)
		}
		if e := d.Flush(); e != api.ErrPower {
			t.Errorf("Fuse(%d): %d", n, e)
		}
		is(t, d, false, 1, 3)
	}
}

// P3.4

// three is a drive whose sectors 2, 5 and 9 have 1, 2 and 3 cached writes; they were made in another order.
func three(t *testing.T) *drive.Drive {
	t.Helper()
	d := made(t, 32)
	for s := range 32 {
		write(t, d, s, full(100))
	}
	flush(t, d)
	for _, x := range []struct {
		s int
		c byte
	}{{9, 91}, {5, 51}, {9, 92}, {2, 21}, {9, 93}, {5, 52}} {
		write(t, d, x.s, full(x.c))
	}
	is(t, d, true, 3, 39)
	return d
}

func TestWhatACrashKeeps(t *testing.T) {
	for _, x := range []struct {
		name          string
		keep          []int
		two, five, ix byte
	}{
		{"nil", nil, 100, 100, 100},
		{"no numbers", []int{}, 100, 100, 100},
		{"none", []int{0, 0, 0}, 100, 100, 100},
		{"the first", []int{1, 1, 1}, 21, 51, 91},
		{"the second, if there is one", []int{0, 2, 2}, 100, 52, 92},
		{"the last", []int{1, 2, 3}, 21, 52, 93},
		{"too few: one", []int{1}, 21, 100, 100},
		{"too few: two", []int{1, 1}, 21, 51, 100},
		{"too many", []int{1, 1, 1, 2, 2, 2}, 21, 51, 91},
		{"only the last sector", []int{0, 0, 3}, 100, 100, 93},
		{"c + 1 is none", []int{2, 3, 4}, 100, 100, 100},
		{"c + 2 is the first", []int{3, 4, 5}, 21, 51, 91},
		{"2c + 1 is the last", []int{3, 5, 7}, 21, 52, 93},
		{"2c + 2 is none", []int{4, 6, 8}, 100, 100, 100},
		{"-1 is 0", []int{-1, -1, -1}, 100, 100, 100},
		{"-2 is 1", []int{-2, -2, -2}, 21, 51, 91},
		{"-3 is 2", []int{-3, -3, -3}, 100, 52, 92},
		{"-4 is 3", []int{-4, -4, -4}, 21, 100, 93},
		{"-5 is 4", []int{-5, -5, -5}, 100, 51, 100},
		{"the greatest", []int{math.MaxInt, math.MaxInt, math.MaxInt}, 21, 51, 93},
		{"the least", []int{math.MinInt, math.MinInt, math.MinInt}, 21, 51, 93},
		{"the least but one", []int{math.MinInt + 1, math.MinInt + 1, math.MinInt + 1}, 100, 100, 92},
	} {
		d := three(t)
		d.Crash(x.keep)
		for s := range 32 {
			want := byte(100)
			switch s {
			case 2:
				want = x.two
			case 5:
				want = x.five
			case 9:
				want = x.ix
			}
			if b, e := d.Read(s); e != api.OK || !bytes.Equal(b, full(want)) {
				t.Errorf("%s: sector %d is %d.., %d, not %d", x.name, s, b[:1], e, want)
			}
		}
		is(t, d, true, 0, 39)
	}
}

func TestEveryNumberForManyWrites(t *testing.T) {
	for writes := 1; writes <= 6; writes++ {
		for x := -30; x <= 30; x++ {
			d := made(t, 32)
			for i := range writes {
				write(t, d, 31, full(byte(i+1)))
			}
			d.Crash([]int{x})
			from := x
			if x < 0 {
				from = -x - 1
			}
			holds(t, d, 31, full(byte(from%(writes+1))))
		}
	}
}

func TestWhatACrashKeptIsDurable(t *testing.T) {
	d := three(t)
	d.Crash([]int{1, 1, 1})
	d.Crash([]int{1, 1, 1})
	holds(t, d, 9, full(91))
	write(t, d, 9, full(7))
	holds(t, d, 9, full(7))
	d.Crash(nil)
	holds(t, d, 9, full(91))
	flush(t, d)
	holds(t, d, 9, full(91))
}

func TestFlushedSectorsTakeNoNumber(t *testing.T) {
	d := made(t, 32)
	write(t, d, 1, full(1))
	flush(t, d)
	write(t, d, 2, full(2))
	d.Crash([]int{1, 0})
	holds(t, d, 1, full(1))
	holds(t, d, 2, full(2))
	write(t, d, 3, full(3))
	d.Crash([]int{1})
	holds(t, d, 2, full(2))
	holds(t, d, 3, full(3))
}

func TestACrashTakesSectorsInTheirOrder(t *testing.T) {
	d := made(t, 2048)
	keep := make([]int, 2048)
	for i := range keep {
		s := (i*1021 + 5) % 2048
		write(t, d, s, mixed(s))
		keep[s] = s % 2
	}
	d.Crash(keep)
	for s := range keep {
		if s%2 == 1 {
			holds(t, d, s, mixed(s))
		} else {
			holds(t, d, s, full(0))
		}
	}
}

func TestACrashBringsPowerBack(t *testing.T) {
	d := unplugged(t)
	d.Crash([]int{1})
	is(t, d, true, 0, 3)
	holds(t, d, 3, full(1))
	write(t, d, 3, full(4))
	flush(t, d)
	is(t, d, true, 0, 5)
	holds(t, d, 3, full(4))
}

func TestACrashTakesTheFuseOut(t *testing.T) {
	for _, off := range []bool{false, true} {
		for n := range 3 {
			d := made(t, 32)
			if off {
				d = unplugged(t)
			}
			d.Fuse(n)
			d.Crash(nil)
			for range 5 {
				flush(t, d)
			}
			if !d.On() {
				t.Errorf("a fuse of %d is still there", n)
			}
		}
	}
}

func TestACrashOfNothing(t *testing.T) {
	d := made(t, 32)
	write(t, d, 3, full(1))
	flush(t, d)
	d.Crash([]int{1, 2, 3})
	is(t, d, true, 0, 2)
	for s := range 32 {
		holds(t, d, s, full(one(s == 3)))
	}
}

// P3.5

func TestWrongCorruption(t *testing.T) {
	for _, d := range []*drive.Drive{three(t), unplugged(t)} {
		for _, x := range []struct{ s, at, mask int }{
			{-1, 0, 1}, {32, 0, 1}, {math.MinInt, 0, 1}, {math.MaxInt, 0, 1},
			{9, -1, 1}, {9, 256, 1}, {9, math.MinInt, 1}, {9, math.MaxInt, 1},
			{9, 0, -1}, {9, 0, 256}, {9, 0, 257}, {9, 0, math.MinInt}, {9, 0, math.MaxInt},
			{32, 256, 256}, {-1, -1, -1},
		} {
			if e := d.Corrupt(x.s, x.at, x.mask); e != api.ErrArg {
				t.Errorf("Corrupt(%d, %d, %d): %d", x.s, x.at, x.mask, e)
			}
		}
	}
	d := three(t)
	d.Corrupt(9, 256, 1)
	d.Corrupt(9, 0, 256)
	d.Corrupt(9, 0, -1)
	holds(t, d, 9, full(93))
	holds(t, d, 10, full(100))
	d.Crash(nil)
	holds(t, d, 9, full(100))
}

func TestATurnedByteThatIsDurable(t *testing.T) {
	for _, s := range []int{0, 3, 31} {
		for _, at := range []int{0, 1, 128, 255} {
			for _, mask := range []int{0, 1, 0x5a, 128, 255} {
				d := made(t, 32)
				write(t, d, s, mixed(s))
				flush(t, d)
				if e := d.Corrupt(s, at, mask); e != api.OK {
					t.Fatalf("Corrupt(%d, %d, %d): %d", s, at, mask, e)
				}
				want := mixed(s)
				want[at] ^= byte(mask)
				holds(t, d, s, want)
				d.Crash([]int{1})
				holds(t, d, s, want)
				holds(t, d, (s+1)%32, full(0))
				is(t, d, true, 0, 2)
			}
		}
	}
}

func TestATurnedByteInAllCachedWrites(t *testing.T) {
	for i, was := range []byte{100, 91, 92, 93} {
		d := three(t)
		if e := d.Corrupt(9, 17, 0x81); e != api.OK {
			t.Fatalf("%d", e)
		}
		want := full(93)
		want[17] ^= 0x81
		holds(t, d, 9, want)
		is(t, d, true, 3, 39)
		d.Crash([]int{1, 1, i})
		want = full(was)
		want[17] ^= 0x81
		holds(t, d, 9, want)
		holds(t, d, 2, full(21))
		holds(t, d, 5, full(51))
	}
}

func TestAFlushedTurnedByte(t *testing.T) {
	d := three(t)
	d.Corrupt(9, 0, 255)
	flush(t, d)
	d.Crash(nil)
	want := full(93)
	want[0] = 93 ^ 255
	holds(t, d, 9, want)
}

func TestALaterWriteIsNotTurned(t *testing.T) {
	d := made(t, 32)
	write(t, d, 3, full(1))
	d.Corrupt(3, 0, 255)
	write(t, d, 3, full(2))
	holds(t, d, 3, full(2))
	d.Crash([]int{1})
	holds(t, d, 3, append([]byte{254}, full(1)[1:]...))
}

func TestAByteTurnedBack(t *testing.T) {
	d := three(t)
	d.Corrupt(9, 255, 3)
	d.Corrupt(9, 255, 3)
	holds(t, d, 9, full(93))
	d.Corrupt(9, 255, 1)
	d.Corrupt(9, 255, 2)
	want := full(93)
	want[255] ^= 3
	holds(t, d, 9, want)
}

func TestATurnedByteWithoutPower(t *testing.T) {
	for i, was := range []byte{2, 1} {
		d := unplugged(t)
		if e := d.Corrupt(3, 4, 8); e != api.OK {
			t.Fatalf("%d", e)
		}
		is(t, d, false, 1, 3)
		d.Crash([]int{i})
		want := full(was)
		want[4] ^= 8
		holds(t, d, 3, want)
	}
}

func TestACloneIsAsTheDriveWas(t *testing.T) {
	d := three(t)
	d.Fuse(2)
	c := d.Clone()
	is(t, c, true, 3, 39)
	if c.Size() != 32 {
		t.Errorf("%d sectors", c.Size())
	}
	for s := range 32 {
		b, _ := d.Read(s)
		holds(t, c, s, b)
	}
	write(t, c, 9, full(94))
	write(t, c, 9, full(95))
	if e := c.Flush(); e != api.ErrPower {
		t.Errorf("the clone's fuse: %d", e)
	}
	is(t, c, false, 3, 41)
	c.Crash([]int{1, 2, 4})
	holds(t, c, 2, full(21))
	holds(t, c, 5, full(52))
	holds(t, c, 9, full(94))
	if u := unplugged(t).Clone(); u.On() || u.Write(1, full(1)) != api.ErrPower {
		t.Error("a clone of what has no power has some")
	}
}

// TestACloneGoesItsOwnWay lets one of the two, then the other, do each thing; the one at rest must not tell of it.
func TestACloneGoesItsOwnWay(t *testing.T) {
	for name, do := range map[string]func(d *drive.Drive){
		"writes":  func(d *drive.Drive) { d.Write(9, full(1)); d.Write(2, full(1)); d.Write(7, full(1)) },
		"flushes": func(d *drive.Drive) { d.Flush() },
		"crashes": func(d *drive.Drive) { d.Crash([]int{1, 1, 1}) },
		"corrupts": func(d *drive.Drive) {
			for s := range 32 {
				d.Corrupt(s, 0, 255)
			}
		},
		"fuses":   func(d *drive.Drive) { d.Fuse(0) },
		"goes":    func(d *drive.Drive) { d.Fuse(0); d.Flush() },
		"changes": func(d *drive.Drive) { d.Flush(); d.Write(9, full(1)); d.Flush(); d.Write(2, full(1)) },
	} {
		for _, cloneAtRest := range []bool{false, true} {
			for i, was := range []byte{100, 91, 92, 93} {
				d := three(t)
				still, moves := d, d.Clone()
				if cloneAtRest {
					still, moves = moves, still
				}
				do(moves)
				is(t, still, true, 3, 39)
				holds(t, still, 2, full(21))
				holds(t, still, 5, full(52))
				holds(t, still, 7, full(100))
				holds(t, still, 9, full(93))
				write(t, still, 0, full(3))
				still.Crash([]int{0, 0, 0, i})
				holds(t, still, 9, full(was))
				holds(t, still, 0, full(100))
				if t.Failed() {
					t.Fatalf("one %s, the other shows it (clone at rest: %v)", name, cloneAtRest)
				}
			}
		}
	}
}

func TestBothWriteOn(t *testing.T) {
	for writes := range 9 { // whatever room is behind the cached writes, the two must not share it
		d := made(t, 32)
		for i := range writes {
			write(t, d, 3, full(byte(i)))
		}
		c := d.Clone()
		write(t, d, 3, full(50))
		write(t, c, 3, full(60))
		write(t, d, 3, full(51))
		write(t, c, 3, full(61))
		d.Crash([]int{writes + 1})
		c.Crash([]int{writes + 1})
		holds(t, d, 3, full(50))
		holds(t, c, 3, full(60))
	}
}

func TestACloneOfAClone(t *testing.T) {
	d := three(t)
	c := d.Clone().Clone()
	d.Crash(nil)
	is(t, c, true, 3, 39)
	holds(t, c, 9, full(93))
}

// P3.6

// history is what a drive must be, told in another way: every write since the last flush in one row.
type history struct {
	durable []string
	made    []entry
	off     bool
	fuse    int
	steps   int
}

type entry struct {
	s       int
	content string
}

func newHistory(n int) *history {
	h := &history{fuse: -1}
	for range n {
		h.durable = append(h.durable, string(full(0)))
	}
	return h
}

// versions are what sector s may be after a crash: what is durable, then its writes.
func (h *history) versions(s int) []string {
	v := []string{h.durable[s]}
	for _, e := range h.made {
		if e.s == s {
			v = append(v, e.content)
		}
	}
	return v
}

func (h *history) last(s int) string {
	v := h.versions(s)
	return v[len(v)-1]
}

func (h *history) cached() int {
	var seen []int
	for _, e := range h.made {
		if !slices.Contains(seen, e.s) {
			seen = append(seen, e.s)
		}
	}
	return len(seen)
}

func (h *history) step() api.Errno {
	if h.off {
		return api.ErrPower
	}
	if h.fuse == 0 {
		h.off = true
		return api.ErrPower
	}
	if h.fuse > 0 {
		h.fuse--
	}
	h.steps++
	return api.OK
}

func (h *history) write(s int, b []byte) api.Errno {
	if s < 0 || s >= len(h.durable) || len(b) != 256 {
		return api.ErrArg
	}
	e := h.step()
	if e == api.OK {
		h.made = append(h.made, entry{s, string(b)})
	}
	return e
}

func (h *history) flush() api.Errno {
	e := h.step()
	if e == api.OK {
		for _, w := range h.made {
			h.durable[w.s] = w.content
		}
		h.made = nil
	}
	return e
}

func (h *history) crash(keep []int) {
	at := 0
	for s := range h.durable {
		v := h.versions(s)
		if len(v) == 1 {
			continue
		}
		if at < len(keep) {
			x := keep[at]
			if x < 0 {
				x = ^x
			}
			h.durable[s] = v[x%len(v)]
			at++
		}
	}
	h.made, h.off, h.fuse = nil, false, -1
}

func (h *history) corrupt(s, at, mask int) api.Errno {
	if s < 0 || s >= len(h.durable) || at < 0 || at > 255 || mask < 0 || mask > 255 {
		return api.ErrArg
	}
	h.durable[s] = turned(h.durable[s], at, mask)
	for i, e := range h.made {
		if e.s == s {
			h.made[i].content = turned(e.content, at, mask)
		}
	}
	return api.OK
}

func turned(s string, at, mask int) string {
	b := []byte(s)
	b[at] ^= byte(mask)
	return string(b)
}

func (h *history) clone() *history {
	c := *h
	c.durable, c.made = slices.Clone(h.durable), slices.Clone(h.made)
	return &c
}

func (h *history) compare(t *testing.T, d *drive.Drive) {
	t.Helper()
	if d.Size() != len(h.durable) || d.On() == h.off || d.Steps() != h.steps || d.Cached() != h.cached() {
		t.Fatalf("size %d, on %v, %d steps, %d cached, not %d, %v, %d, %d", d.Size(), d.On(), d.Steps(), d.Cached(), len(h.durable), !h.off, h.steps, h.cached())
	}
	for s := -1; s <= len(h.durable); s++ {
		b, e := d.Read(s)
		switch {
		case h.off:
			if b != nil || e != api.ErrPower {
				t.Fatalf("Read(%d) without power: %x, %d", s, b, e)
			}
		case s < 0 || s == len(h.durable):
			if b != nil || e != api.ErrArg {
				t.Fatalf("Read(%d): %x, %d", s, b, e)
			}
		case e != api.OK || string(b) != h.last(s):
			t.Fatalf("Read(%d): %x, %d, not %x", s, b, e, h.last(s))
		}
	}
}

// dice is a row of numbers that is the same in each run.
type dice uint64

func (r *dice) below(n int) int {
	*r = *r*6364136223846793005 + 1442695040888963407
	return int(uint64(*r)>>33) % n
}

func (r *dice) keep() []int {
	keep := make([]int, r.below(12))
	for i := range keep {
		keep[i] = r.below(13) - 6
	}
	return keep
}

// act lets both do one thing.
func (r *dice) act(t *testing.T, d *drive.Drive, h *history) {
	t.Helper()
	var got, want api.Errno
	switch r.below(12) {
	case 0:
		got, want = d.Flush(), h.flush()
	case 1:
		n := r.below(9) - 2
		d.Fuse(n)
		h.fuse = max(n, -1)
	case 2:
		keep := r.keep()
		d.Crash(keep)
		h.crash(keep)
	case 3:
		s, at, mask := r.below(35)-1, r.below(258)-1, r.below(258)-1
		got, want = d.Corrupt(s, at, mask), h.corrupt(s, at, mask)
	default:
		s, b := (r.below(14)-1)*r.below(4), mixed(r.below(1<<20))
		if r.below(20) == 0 {
			b = b[:255]
		}
		got, want = d.Write(s, b), h.write(s, b)
	}
	if got != want {
		t.Fatalf("%d, not %d", got, want)
	}
}

func TestManyThingsInManyOrders(t *testing.T) {
	for seed := range 60 {
		r := dice(seed)
		d, h := made(t, 32), newHistory(32)
		var old *drive.Drive
		var oldH *history
		for i := range 150 {
			if i%40 == 7 {
				old, oldH = d.Clone(), h.clone()
			}
			r.act(t, d, h)
			h.compare(t, d)
			if old != nil && i%5 == 0 {
				r.act(t, old, oldH)
				oldH.compare(t, old)
			}
		}
	}
}

// TestACrashAtEachStep cuts a run of writes and flushes at each of its steps and keeps many things of what was cached: what was flushed is there, and each sector is whole.
func TestACrashAtEachStep(t *testing.T) {
	run := func(d *drive.Drive) (flushed []int) {
		flushed = make([]int, 8)
		now := slices.Clone(flushed)
		for i := range 40 {
			if i%9 == 8 {
				if d.Flush() == api.OK {
					copy(flushed, now)
				}
			} else if s := i * 5 % 8; d.Write(s, mixed(i+1)) == api.OK {
				now[s] = i + 1
			}
		}
		return flushed
	}
	content := func(i int) []byte {
		if i == 0 {
			return full(0)
		}
		return mixed(i)
	}
	for fuse := range 41 {
		for seed := range 20 {
			r := dice(seed)
			d := made(t, 32)
			d.Fuse(fuse)
			flushed := run(d)
			d.Crash(r.keep())
			for s := range 8 {
				b, e := d.Read(s)
				whole := bytes.Equal(b, content(flushed[s]))
				for i := flushed[s]; i < fuse && i < 40; i++ { // a write that was made behind the one that was flushed
					whole = whole || i%9 != 8 && i*5%8 == s && bytes.Equal(b, mixed(i+1))
				}
				if e != api.OK || !whole {
					t.Fatalf("cut at %d: sector %d is torn or lost: %x, %d", fuse, s, b, e)
				}
			}
		}
	}
}

func TestWhatWasFlushedSurvives(t *testing.T) {
	d := made(t, 64)
	for s := range 64 {
		write(t, d, s, mixed(s))
	}
	flush(t, d)
	r := dice(1)
	for range 30 {
		for s := range 32 {
			write(t, d, s, mixed(100+s))
		}
		d.Crash(r.keep())
		for s := range 32 {
			b, e := d.Read(s)
			if e != api.OK || !bytes.Equal(b, mixed(s)) && !bytes.Equal(b, mixed(100+s)) {
				t.Fatalf("sector %d: %x, %d", s, b, e)
			}
		}
		for s := 32; s < 64; s++ {
			holds(t, d, s, mixed(s))
		}
	}
}

// R6 and R7

func TestTheSameCallsTheSameAnswers(t *testing.T) {
	a, b := three(t), three(t)
	for i := range 2 {
		for s := range 32 {
			x, e := a.Read(s)
			y, f := b.Read(s)
			if !bytes.Equal(x, y) || e != f {
				t.Fatalf("sector %d: %x, %d; %x, %d", s, x, e, y, f)
			}
		}
		if i == 0 {
			a.Crash([]int{1, 2, 2})
			b.Crash([]int{1, 2, 2})
		}
	}
}

func TestWhatIsHandedInStaysAsItWas(t *testing.T) {
	d := made(t, 32)
	for _, n := range []int{0, 255, 256, 257} {
		s := string(append(mixed(1), 9)[:n])
		b := lent.Bytes(s)
		for range 3 {
			d.Write(3, b)
			d.Corrupt(3, 0, 255)
			d.Flush()
		}
		if !lent.Untouched(b, s) {
			t.Errorf("%x became %x", s, b[:cap(b)])
		}
	}
	keep := []int{1, -2, 5, math.MinInt, 9, 9}
	was := slices.Clone(keep)
	three(t).Crash(keep[:4])
	three(t).Crash(keep[:1])
	if !slices.Equal(keep, was) {
		t.Errorf("%d became %d", was, keep)
	}
}

func TestWhatIsHandedInIsNotKept(t *testing.T) {
	d := made(t, 32)
	b := full(1)
	write(t, d, 3, b)
	b[0] = 9
	holds(t, d, 3, full(1))
	write(t, d, 3, b)
	b[0] = 1
	d.Crash([]int{1})
	holds(t, d, 3, full(1))
	write(t, d, 3, b)
	flush(t, d)
	b[255] = 7
	holds(t, d, 3, full(1))
}

func TestAnAnswerIsMemoryOfItsOwn(t *testing.T) {
	d := three(t)
	spoil := func(s int) {
		b, _ := d.Read(s)
		b = append(b, full(6)...)
		for i := range b[:cap(b)] {
			b[:cap(b)][i] = 6
		}
		b, _ = d.Read(s)
		for i := range b[:cap(b)] {
			b[:cap(b)][i] = 6
		}
	}
	for s := range 32 {
		spoil(s)
	}
	holds(t, d, 8, full(100))
	holds(t, d, 9, full(93))
	d.Crash([]int{1, 1, 2})
	for s := range 32 {
		spoil(s)
	}
	holds(t, d, 2, full(21))
	holds(t, d, 9, full(92))
	x, _ := d.Read(9)
	y, _ := d.Read(9)
	x[0] = 1
	if y[0] != 92 {
		t.Error("two answers share memory")
	}
}

func TestAnAnswerStaysAsItWas(t *testing.T) {
	d := three(t)
	cached, _ := d.Read(9)
	durable, _ := d.Read(8)
	d.Corrupt(9, 0, 255)
	d.Corrupt(8, 0, 255)
	write(t, d, 9, full(1))
	write(t, d, 8, full(1))
	flush(t, d)
	d.Crash(nil)
	if !bytes.Equal(cached, full(93)) || !bytes.Equal(durable, full(100)) {
		t.Errorf("%x, %x", cached, durable)
	}
}

// The document's examples

func TestExamples(t *testing.T) {
	d := made(t, 32)
	write(t, d, 3, full(1))
	holds(t, d, 3, full(1))
	d.Crash(nil)
	holds(t, d, 3, full(0))

	d = made(t, 32)
	write(t, d, 3, full(1))
	write(t, d, 3, full(2))
	d.Crash([]int{1})
	holds(t, d, 3, full(1))

	d = made(t, 32)
	write(t, d, 3, full(1))
	flush(t, d)
	write(t, d, 3, full(2))
	d.Fuse(0)
	if e := d.Write(4, full(1)); e != api.ErrPower {
		t.Errorf("Write: %d", e)
	}
	if b, e := d.Read(3); b != nil || e != api.ErrPower {
		t.Errorf("Read: %x, %d", b, e)
	}
	d.Crash([]int{0})
	holds(t, d, 3, full(1))
}
