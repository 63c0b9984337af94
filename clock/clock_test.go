package clock_test

import (
	"math"
	"math/big"
	"slices"
	"testing"

	"egress/api"
	"egress/clock"
)

// samples are ints around 0, around the limits of epochs and of their lengths, and around the limits of int.
var samples = []int{
	math.MinInt, math.MinInt + 1, -api.MaxEpoch, -7, -2, -1, 0, 1, 2, 3, 4, 5, 9, 100,
	1<<20 - 1, 1 << 20, 1<<20 + 1, 1<<31 - 1, 1 << 31, 1 << 32,
	api.MaxEpoch/2 - 1, api.MaxEpoch / 2, api.MaxEpoch/2 + 1,
	api.MaxEpoch - 2, api.MaxEpoch - 1, api.MaxEpoch, api.MaxEpoch + 1,
	1 << 60, 1 << 62, math.MaxInt - 1, math.MaxInt,
}

func integer(n int) *big.Int { return big.NewInt(int64(n)) }

// sequences returns lists of every small length over some of the samples.
func sequences() [][]int {
	values := []int{
		math.MinInt, -2, -1, 0, 1, 7, 1 << 20, api.MaxEpoch / 2, api.MaxEpoch - 1, api.MaxEpoch,
		api.MaxEpoch + 1, 1 << 62, math.MaxInt,
	}
	all := [][]int{nil, {}}
	last := [][]int{{}}
	for range 3 {
		var next [][]int
		for _, l := range last {
			for _, v := range values {
				next = append(next, append(slices.Clone(l), v))
			}
		}
		all = append(all, next...)
		last = next
	}
	return all
}

// P2.1: a new clock is in block 0, whatever the length of its epochs is.
func TestNew(t *testing.T) {
	for _, n := range samples {
		c := clock.New(n)
		if (c == nil) != (n < 1) {
			t.Errorf("New(%d) = nil is %v", n, c == nil)
			continue
		}
		if c.Block() != 0 || c.Epoch() != 0 {
			t.Errorf("New(%d) is in block %d of epoch %d; want 0, 0", n, c.Block(), c.Epoch())
		}
	}
}

// P2.1: the epochs are counted here without a division.
func TestTick(t *testing.T) {
	for _, epochLen := range []int{1, 2, 3, 4, 5, 7, 32, 100, 4096} {
		c := clock.New(epochLen)
		block, epoch, place := 0, 0, 0
		for range 3*epochLen + 2 {
			block, place = block+1, place+1
			if place == epochLen {
				epoch, place = epoch+1, 0
			}
			if got := c.Tick(); got != (place == 0) {
				t.Fatalf("epochs of %d: Tick to block %d = %v", epochLen, block, got)
			}
			if c.Block() != block || c.Epoch() != epoch {
				t.Fatalf("epochs of %d: block %d of epoch %d; want %d, %d", epochLen, c.Block(), c.Epoch(), block, epoch)
			}
		}
	}
}

// P2.1: New accepts lengths for which First has no result.
func TestLongEpochs(t *testing.T) {
	for _, epochLen := range []int{1<<20 + 1, 1 << 40, math.MaxInt} {
		c := clock.New(epochLen)
		for i := range 100 {
			if c.Tick() || c.Block() != i+1 || c.Epoch() != 0 {
				t.Fatalf("epochs of %d: block %d of epoch %d after %d ticks", epochLen, c.Block(), c.Epoch(), i+1)
			}
		}
	}
}

// P2.1: reading a clock does not advance it.
func TestReadTwice(t *testing.T) {
	c := clock.New(2)
	for range 5 {
		c.Tick()
	}
	for range 3 {
		if c.Block() != 5 || c.Epoch() != 2 {
			t.Errorf("block %d of epoch %d; want 5, 2", c.Block(), c.Epoch())
		}
	}
}

func TestNilClock(t *testing.T) {
	var c *clock.Clock
	for range 2 {
		if c.Tick() || c.Block() != 0 || c.Epoch() != 0 {
			t.Errorf("nil clock: block %d of epoch %d, or a boundary", c.Block(), c.Epoch())
		}
	}
	c = clock.New(0)
	if c.Tick() || c.Block() != 0 || c.Epoch() != 0 {
		t.Errorf("New(0): block %d of epoch %d, or a boundary", c.Block(), c.Epoch())
	}
}

// P2: clocks that were created separately are independent of each other.
func TestIndependent(t *testing.T) {
	a, b, idle := clock.New(3), clock.New(3), clock.New(3)
	for range 7 {
		a.Tick()
	}
	b.Tick()
	for _, c := range []struct {
		clock        *clock.Clock
		block, epoch int
	}{{a, 7, 2}, {b, 1, 0}, {idle, 0, 0}} {
		if c.clock.Block() != c.block || c.clock.Epoch() != c.epoch {
			t.Errorf("block %d of epoch %d; want %d, %d", c.clock.Block(), c.clock.Epoch(), c.block, c.epoch)
		}
	}
}

// P2.2
func TestEpochOf(t *testing.T) {
	for _, block := range samples {
		for _, epochLen := range samples {
			want := 0
			if block >= 0 && epochLen >= 1 {
				want = int(new(big.Int).Quo(integer(block), integer(epochLen)).Int64())
			}
			if got := clock.EpochOf(block, epochLen); got != want {
				t.Errorf("EpochOf(%d, %d) = %d; want %d", block, epochLen, got, want)
			}
		}
	}
}

// P2.2: the example of the document, both sides of a boundary, and arguments outside their range.
func TestEpochOfCases(t *testing.T) {
	for _, c := range []struct{ block, epochLen, want int }{
		{9, 4, 2}, {0, 4, 0}, {3, 4, 0}, {4, 4, 1}, {7, 4, 1}, {8, 4, 2}, {11, 4, 2}, {12, 4, 3},
		{0, 1, 0}, {5, 1, 5}, {math.MaxInt, 1, math.MaxInt}, {math.MaxInt, math.MaxInt, 1}, {math.MaxInt - 1, math.MaxInt, 0},
		{-1, 4, 0}, {-9, 4, 0}, {math.MinInt, 1, 0}, {math.MinInt, -1, 0}, {9, 0, 0}, {9, -4, 0}, {-9, -4, 0}, {9, math.MinInt, 0},
	} {
		if got := clock.EpochOf(c.block, c.epochLen); got != c.want {
			t.Errorf("EpochOf(%d, %d) = %d; want %d", c.block, c.epochLen, got, c.want)
		}
	}
}

// P2.2
func TestFirst(t *testing.T) {
	for _, epoch := range samples {
		for _, epochLen := range samples {
			want, wantOK := 0, false
			if epoch >= 0 && epoch <= api.MaxEpoch && epochLen >= 1 && epochLen <= 1<<20 {
				want, wantOK = int(new(big.Int).Mul(integer(epoch), integer(epochLen)).Int64()), true
			}
			if got, ok := clock.First(epoch, epochLen); got != want || ok != wantOK {
				t.Errorf("First(%d, %d) = %d, %v; want %d, %v", epoch, epochLen, got, ok, want, wantOK)
			}
		}
	}
}

// P2.2: the example of the document, and both sides of each limit.
func TestFirstCases(t *testing.T) {
	for _, c := range []struct {
		epoch, epochLen, want int
		ok                    bool
	}{
		{2, 4, 8, true}, {0, 4, 0, true}, {1, 4, 4, true}, {5, 1, 5, true},
		{-1, 4, 0, false}, {api.NoEpoch, 1, 0, false}, {math.MinInt, 4, 0, false},
		{2, 0, 0, false}, {2, -1, 0, false}, {0, 0, 0, false}, {2, math.MinInt, 0, false},
		{0, 1 << 20, 0, true}, {2, 1 << 20, 1 << 21, true}, {2, 1<<20 + 1, 0, false}, {0, 1<<20 + 1, 0, false}, {0, math.MaxInt, 0, false},
		{api.MaxEpoch, 1, api.MaxEpoch, true}, {api.MaxEpoch + 1, 1, 0, false}, {math.MaxInt, 1, 0, false},
		{api.MaxEpoch, 1 << 20, 1 << 60, true}, {api.MaxEpoch + 1, 1 << 20, 0, false}, {api.MaxEpoch, 1<<20 + 1, 0, false},
		{math.MaxInt, math.MaxInt, 0, false}, {1 << 32, 1 << 32, 0, false},
	} {
		if got, ok := clock.First(c.epoch, c.epochLen); got != c.want || ok != c.ok {
			t.Errorf("First(%d, %d) = %d, %v; want %d, %v", c.epoch, c.epochLen, got, ok, c.want, c.ok)
		}
	}
}

// P2.2: the boundary belongs to its epoch, and the block before it to the epoch before.
func TestFirstOfEpochOf(t *testing.T) {
	for _, epochLen := range []int{1, 2, 3, 4, 7, 4096, 1 << 20} {
		for _, epoch := range []int{1, 2, 3, 10, 1 << 31, api.MaxEpoch - 1, api.MaxEpoch} {
			first, ok := clock.First(epoch, epochLen)
			at, before := clock.EpochOf(first, epochLen), clock.EpochOf(first-1, epochLen)
			if !ok || at != epoch || before != epoch-1 {
				t.Errorf("First(%d, %d) = %d, %v, in epoch %d after epoch %d", epoch, epochLen, first, ok, at, before)
			}
		}
	}
}

// later is the specification of Later with integers of any size.
func later(epoch int, by []int) (int, bool) {
	sum := integer(epoch)
	for _, n := range by {
		sum.Add(sum, integer(n))
	}
	for _, n := range append([]int{epoch}, by...) {
		if n < 0 {
			return 0, false
		}
	}
	if sum.Cmp(integer(api.MaxEpoch)) > 0 {
		return 0, false
	}
	return int(sum.Int64()), true
}

// P2.3
func TestLater(t *testing.T) {
	lists := sequences()
	for _, epoch := range samples {
		for _, by := range lists {
			before := slices.Clone(by)
			want, wantOK := later(epoch, by)
			if got, ok := clock.Later(epoch, by...); got != want || ok != wantOK {
				t.Errorf("Later(%d, %v) = %d, %v; want %d, %v", epoch, by, got, ok, want, wantOK)
			}
			if !slices.Equal(by, before) {
				t.Errorf("Later changed %v to %v", before, by)
			}
		}
	}
}

// P2.3: without numbers, both sides of the limit, negative numbers, and sums that wrap around.
func TestLaterCases(t *testing.T) {
	for _, c := range []struct {
		epoch int
		by    []int
		want  int
		ok    bool
	}{
		{5, nil, 5, true},
		{5, []int{0}, 5, true},
		{5, []int{1, 2, 3}, 11, true},
		{0, nil, 0, true},
		{api.MaxEpoch, nil, api.MaxEpoch, true},
		{api.MaxEpoch, []int{0, 0}, api.MaxEpoch, true},
		{api.MaxEpoch - 1, []int{1}, api.MaxEpoch, true},
		{0, []int{api.MaxEpoch / 2, api.MaxEpoch / 2}, api.MaxEpoch, true},
		{0, []int{api.MaxEpoch}, api.MaxEpoch, true},
		{0, []int{api.MaxEpoch + 1}, 0, false},
		{api.MaxEpoch + 1, nil, 0, false},
		{api.MaxEpoch, []int{1}, 0, false},
		{1, []int{api.MaxEpoch}, 0, false},
		{1, []int{api.MaxEpoch / 2, api.MaxEpoch / 2}, 0, false},
		{api.NoEpoch, nil, 0, false},
		{api.NoEpoch, []int{1}, 0, false},
		{-5, []int{10}, 0, false},
		{5, []int{-1}, 0, false},
		{5, []int{3, -1}, 0, false},
		{5, []int{-1, 3}, 0, false},
		{api.MaxEpoch, []int{1, -1}, 0, false},
		{api.MaxEpoch, []int{-1, 1}, 0, false},
		{0, []int{math.MinInt}, 0, false},
		{0, []int{math.MaxInt}, 0, false},
		{0, []int{math.MaxInt, math.MaxInt, 2}, 0, false},
		{2, []int{math.MaxInt, math.MaxInt}, 0, false},
		{math.MaxInt, []int{math.MaxInt, 2}, 0, false},
		{math.MinInt, []int{math.MinInt}, 0, false},
		{math.MaxInt, nil, 0, false},
	} {
		if got, ok := clock.Later(c.epoch, c.by...); got != c.want || ok != c.ok {
			t.Errorf("Later(%d, %v) = %d, %v; want %d, %v", c.epoch, c.by, got, ok, c.want, c.ok)
		}
	}
}

// P2.3: Later reads all of a long list.
func TestLaterMany(t *testing.T) {
	by := make([]int, 100000)
	for i := range by {
		by[i] = i
	}
	if got, ok := clock.Later(50, by...); got != 4999950050 || !ok {
		t.Errorf("Later of 50 and 0 to 99999 = %d, %v", got, ok)
	}
	by[len(by)-1] = -1
	if got, ok := clock.Later(50, by...); got != 0 || ok {
		t.Errorf("Later with a negative number at the end = %d, %v", got, ok)
	}
}

// P2.4
func TestMax(t *testing.T) {
	for _, l := range sequences() {
		before := slices.Clone(l)
		want := api.NoEpoch
		if len(l) > 0 {
			want = slices.Sorted(slices.Values(l))[len(l)-1]
		}
		if got := clock.Max(l...); got != want {
			t.Errorf("Max(%v) = %d; want %d", l, got, want)
		}
		if !slices.Equal(l, before) {
			t.Errorf("Max changed %v to %v", before, l)
		}
	}
}

// P2.4: without numbers, the greatest one at each place, and numbers that are all less than NoEpoch.
func TestMaxCases(t *testing.T) {
	for _, c := range []struct {
		l    []int
		want int
	}{
		{nil, api.NoEpoch}, {[]int{}, api.NoEpoch}, {[]int{api.NoEpoch}, api.NoEpoch},
		{[]int{7}, 7}, {[]int{0}, 0}, {[]int{9, 3, 5}, 9}, {[]int{3, 9, 5}, 9}, {[]int{3, 5, 9}, 9}, {[]int{4, 4}, 4},
		{[]int{api.NoEpoch, 0}, 0}, {[]int{0, api.NoEpoch}, 0},
		{[]int{-7, -5, -9}, -5}, {[]int{-2}, -2}, {[]int{math.MinInt}, math.MinInt},
		{[]int{math.MinInt, math.MaxInt}, math.MaxInt}, {[]int{api.MaxEpoch, api.MaxEpoch + 1}, api.MaxEpoch + 1},
	} {
		if got := clock.Max(c.l...); got != c.want {
			t.Errorf("Max(%v) = %d; want %d", c.l, got, c.want)
		}
	}
}

// P2.5
func TestClockAgreesWithEpochOf(t *testing.T) {
	for _, epochLen := range []int{1, 2, 3, 4, 6, 31, 1000} {
		c := clock.New(epochLen)
		boundaries := 0
		for n := 1; n <= 5000; n++ {
			atBoundary := c.Tick()
			if atBoundary {
				boundaries++
			}
			if want := clock.EpochOf(n, epochLen); c.Epoch() != want || boundaries != want {
				t.Fatalf("epochs of %d: epoch %d and %d boundaries after %d ticks; want %d", epochLen, c.Epoch(), boundaries, n, want)
			}
			if first, ok := clock.First(c.Epoch(), epochLen); !ok || atBoundary != (c.Block() == first) {
				t.Fatalf("epochs of %d: Tick to block %d = %v, but First = %d, %v", epochLen, n, atBoundary, first, ok)
			}
		}
	}
}
