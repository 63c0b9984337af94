package deadline_test

import (
	"math"
	"math/big"
	"math/rand"
	"slices"
	"sync"
	"testing"

	"egress/api"
	"egress/assign"
	"egress/clock"
	"egress/config"
	"egress/cursor"
	"egress/deadline"
	"egress/lanes"
	"egress/meter"
)

const (
	top  = math.MaxUint64
	last = api.MaxEpoch
)

// amounts are numbers at which the width of a word or the sign of an int matters, those around the greatest epoch and amount, and some small ones.
var amounts = []uint64{0, 1, 2, 3, 31, 32, 33, 64, 1<<31 - 1, 1 << 31, 1<<32 - 1, 1 << 32, 1<<40 - 1, 1 << 40, 1<<40 + 1, 1<<60 - 1, 1 << 60, 1<<60 + 1, 1<<63 - 1, 1 << 63, 1<<63 + 1, top - 1<<60, top - 1, top}

// caps and churns are values of ForcedCap and MinChurn of a valid configuration.
var (
	caps   = []uint64{0, 1, 2, 64, 1<<32 - 1, 1 << 40, 1<<60 - 1, 1 << 60}
	churns = []uint64{1, 2, 3, 32, 1 << 20, 1<<20 + 1, 1 << 24, 1<<32 - 1, 1 << 32, 1<<60 - 1, 1 << 60}
)

// epochs are numbers of epochs, of which the least and the greatest ones leave room for few bounds, and numbers that are none.
var epochs = []int{0, 1, 2, 5, 1000, 1<<31 - 1, 1 << 31, 1 << 32, last - 1<<20 - 5000, last - 1<<20, last - 100, last - 6, last - 5, last - 4, last - 3, last - 2, last - 1, last, last + 1, last + 2, 1 << 41, 1 << 62, math.MaxInt - 1, math.MaxInt, -1, -2, -6, -last, -1 << 62, math.MinInt + 1, math.MinInt}

// result is a bound, or none.
type result struct {
	n  int
	ok bool
}

func got(n int, ok bool) result { return result{n, ok} }

var none = result{}

// bounds are the results of all functions for an exit.
type bounds struct{ boundaries, exit, withdraw, pay result }

func all(epoch int, ahead, weight uint64, c api.Config) bounds {
	return bounds{
		got(deadline.Boundaries(ahead, weight, c)),
		got(deadline.Exit(epoch, ahead, weight, c)),
		got(deadline.Withdraw(epoch, ahead, weight, c)),
		got(deadline.Pay(epoch, ahead, weight, c)),
	}
}

func integer(a uint64) *big.Int { return new(big.Int).SetUint64(a) }

// boundaries is the specification of Boundaries, with integers of any size: the least number, but at least 1, whose product with MinChurn is at least the sum.
func boundaries(ahead, weight uint64, c api.Config) result {
	sum := integer(ahead)
	sum.Add(sum, integer(weight))
	sum.Add(sum, integer(c.ForcedCap))
	if !sum.IsUint64() {
		return none
	}
	churn := integer(c.MinChurn)
	n := new(big.Int).Quo(sum, churn)
	if new(big.Int).Mul(n, churn).Cmp(sum) < 0 {
		n.Add(n, big.NewInt(1))
	}
	switch {
	case n.Sign() == 0:
		return result{1, true}
	case n.Cmp(big.NewInt(last)) > 0:
		return none
	}
	return result{int(n.Int64()), true}
}

// sweep is the specification of Sweep: it counts the blocks, and the epochs that begin within them after the first block.
func sweep(c api.Config) int {
	each := min(c.Visits-c.Partials, c.Payments-c.Partials)
	visited, begun := 0, 0
	for block := 0; visited < c.Capacity; block++ {
		visited += each
		if block > 0 && block%c.EpochLen == 0 {
			begun++
		}
	}
	return begun
}

// later is the sum of a bound and some numbers, with integers of any size.
func later(b result, by ...int) result {
	sum := big.NewInt(int64(b.n))
	for _, n := range by {
		sum.Add(sum, big.NewInt(int64(n)))
	}
	if !b.ok || sum.Cmp(big.NewInt(last)) > 0 {
		return none
	}
	return result{int(sum.Int64()), true}
}

// expected is the specification of all functions.
func expected(epoch int, ahead, weight uint64, c api.Config) bounds {
	b := bounds{boundaries: boundaries(ahead, weight, c)}
	if epoch < 0 || !b.boundaries.ok {
		return b
	}
	b.exit = later(b.boundaries, epoch, 1)
	b.withdraw = later(b.exit, c.Unbonding)
	b.pay = later(b.withdraw, sweep(c))
	return b
}

// expect compares all functions with the specification, and returns their results.
func expect(t *testing.T, epoch int, ahead, weight uint64, c api.Config) bounds {
	t.Helper()
	b := all(epoch, ahead, weight, c)
	if want := expected(epoch, ahead, weight, c); b != want {
		t.Errorf("the bounds for %d with %d before it in epoch %d are %+v; want %+v; configuration %+v", weight, ahead, epoch, b, want, c)
	}
	return b
}

func valid(t *testing.T, c api.Config) api.Config {
	t.Helper()
	if field := config.Check(c); field != 0 {
		t.Fatalf("field %d of %+v is not valid", field, c)
	}
	return c
}

// churning is a valid configuration with these fields.
func churning(t *testing.T, minChurn, forcedCap uint64) api.Config {
	t.Helper()
	c := config.Default()
	c.MinChurn, c.ForcedCap = minChurn, forcedCap
	return valid(t, c)
}

// sweeping is a valid configuration with these fields.
func sweeping(t *testing.T, capacity, epochLen, visits, payments, partials int) api.Config {
	t.Helper()
	c := config.Default()
	c.Capacity, c.EpochLen, c.Visits, c.Payments, c.Partials = capacity, epochLen, visits, payments, partials
	return valid(t, c)
}

// unbonding changes the configuration to a valid one with this field.
func unbonding(t *testing.T, n int, c api.Config) api.Config {
	t.Helper()
	c.Unbonding, c.SlashDelay = n, n+1
	return valid(t, c)
}

// P18.1, P18.2 and P18.3: the examples of the document, in this chapter and in that of the engine.
func TestExample(t *testing.T) {
	c := config.Default()
	want := bounds{result{5, true}, result{11, true}, result{13, true}, result{14, true}}
	if b := expect(t, 5, 64, 32, c); b != want {
		t.Errorf("the bounds for 32 with 64 before it in epoch 5 are %+v; want %+v", b, want)
	}
	if n := deadline.Sweep(c); n != 1 {
		t.Errorf("Sweep = %d; want 1", n)
	}
	if b := expect(t, 1, 0, 32, c); b.pay != (result{8, true}) {
		t.Errorf("Pay for 32 in epoch 1 = %+v; want 8", b.pay)
	}
}

// P18.1: the quotient is rounded up and at least 1, and each part of the sum counts.
func TestBoundaries(t *testing.T) {
	for _, x := range []struct {
		ahead, weight, forcedCap, minChurn uint64
		want                               int
	}{
		{64, 32, 64, 32, 5},
		{64, 31, 64, 32, 5},
		{64, 33, 64, 32, 6},
		{63, 32, 64, 32, 5},
		{65, 32, 64, 32, 6},
		{64, 32, 63, 32, 5},
		{64, 32, 65, 32, 6},
		{64, 32, 64, 31, 6},
		{64, 32, 64, 33, 5},
		{0, 32, 0, 32, 1},
		{0, 33, 0, 32, 2},
		{32, 0, 0, 32, 1},
		{33, 0, 0, 32, 2},
		{0, 0, 32, 32, 1},
		{0, 0, 33, 32, 2},
		{31, 1, 1, 32, 2},
		{7, 5, 3, 1, 15},
		// A sum of 0 is the only one whose quotient is 0.
		{0, 0, 0, 32, 1},
		{0, 0, 0, 1, 1},
		{0, 0, 0, 1 << 60, 1},
		{1, 0, 0, 1 << 60, 1},
		{0, 1, 0, 1 << 60, 1},
		{0, 0, 1, 1 << 60, 1},
		{1, 1, 0, 1, 2},
	} {
		c := churning(t, x.minChurn, x.forcedCap)
		if b := expect(t, 0, x.ahead, x.weight, c); b.boundaries != (result{x.want, true}) {
			t.Errorf("Boundaries(%d, %d) with ForcedCap %d and MinChurn %d = %+v; want %d", x.ahead, x.weight, x.forcedCap, x.minChurn, b.boundaries, x.want)
		}
	}
}

// P18.1: a sum of exactly 2^64 - 1 is not too large. A greater one wraps around to a small one if a carry is lost.
func TestBoundariesSum(t *testing.T) {
	for _, x := range []struct {
		ahead, weight, forcedCap uint64
		want                     result
	}{
		{top, 0, 0, result{16, true}},
		{0, top, 0, result{16, true}},
		{top - 1, 1, 0, result{16, true}},
		{1, top - 1, 0, result{16, true}},
		{top - 1, 0, 1, result{16, true}},
		{0, top - 1, 1, result{16, true}},
		{1 << 63, 1<<63 - 1, 0, result{16, true}},
		{top - 1<<60, 0, 1 << 60, result{16, true}},
		{0, top - 1<<60, 1 << 60, result{16, true}},
		{1 << 63, 1<<63 - 1<<60 - 1, 1 << 60, result{16, true}},
		{top, 1, 0, none},
		{1, top, 0, none},
		{top, 0, 1, none},
		{0, top, 1, none},
		{top - 1, 1, 1, none},
		{1 << 63, 1 << 63, 0, none},
		{1 << 63, 1 << 63, 1 << 60, none},
		{1 << 63, 1<<63 - 1<<60, 1 << 60, none},
		{top - 1<<60 + 1, 0, 1 << 60, none},
		{0, top - 1<<60 + 1, 1 << 60, none},
		{top, top, 0, none},
		{top, top, 2, none},
		{top, top, 1 << 60, none},
		{top, 2, 0, none},
	} {
		c := churning(t, 1<<60, x.forcedCap)
		if b := expect(t, 0, x.ahead, x.weight, c); b.boundaries != x.want {
			t.Errorf("Boundaries(%d, %d) with ForcedCap %d = %+v; want %+v", x.ahead, x.weight, x.forcedCap, b.boundaries, x.want)
		}
	}
}

// P18.1: both sides of the greatest quotient, which is compared after it is rounded up.
func TestBoundariesQuotient(t *testing.T) {
	for _, x := range []struct {
		weight, forcedCap, minChurn uint64
		want                        result
	}{
		{last - 1, 0, 1, result{last - 1, true}},
		{last, 0, 1, result{last, true}},
		{last - 1, 1, 1, result{last, true}},
		{0, last, 1, result{last, true}},
		{last + 1, 0, 1, none},
		{last, 1, 1, none},
		{0, last + 1, 1, none},
		{2*last - 1, 0, 2, result{last, true}},
		{2 * last, 0, 2, result{last, true}},
		{2*last + 1, 0, 2, none},
		{3 * last, 0, 3, result{last, true}},
		{3*last + 1, 0, 3, none},
		{1<<63 + 1<<62, 0, 3 << 22, result{last, true}},
		{1<<63 + 1<<62 + 1, 0, 3 << 22, none},
		// The quotient exceeds 2^63 or 2^32 times an epoch.
		{1<<63 + 5, 0, 1, none},
		{top, 0, 1, none},
		{1 << 60, 1 << 60, 1, none},
		{top, 0, 1 << 23, none},
		{top, 0, 1 << 24, result{last, true}},
		{top, 0, 1<<24 - 1, none},
	} {
		c := churning(t, x.minChurn, x.forcedCap)
		if b := expect(t, 0, 0, x.weight, c); b.boundaries != x.want {
			t.Errorf("Boundaries(0, %d) with ForcedCap %d and MinChurn %d = %+v; want %+v", x.weight, x.forcedCap, x.minChurn, b.boundaries, x.want)
		}
	}
}

// P18.1 and P18.2: all combinations of the samples, with the first epoch and with one that leaves little room.
func TestAmounts(t *testing.T) {
	for _, minChurn := range churns {
		for _, forcedCap := range caps {
			c := churning(t, minChurn, forcedCap)
			for _, ahead := range amounts {
				for _, weight := range amounts {
					expect(t, 0, ahead, weight, c)
					expect(t, last-20, ahead, weight, c)
				}
			}
		}
	}
}

// P18.1 and P18.2: only the sum of the two weights matters, not which of them is the exit's own.
func TestSwapped(t *testing.T) {
	c := config.Default()
	for _, ahead := range amounts {
		for _, weight := range amounts {
			if b, other := all(3, ahead, weight, c), all(3, weight, ahead, c); b != other {
				t.Errorf("the bounds for %d and %d are %+v, and %+v when they are swapped", ahead, weight, b, other)
			}
		}
	}
}

// P18.2: both sides of the greatest epoch, for each of the bounds.
func TestLastEpoch(t *testing.T) {
	c := config.Default()
	for _, x := range []struct {
		epoch                int
		exit, withdraw, pays result
	}{
		{0, result{6, true}, result{8, true}, result{9, true}},
		{last - 10, result{last - 4, true}, result{last - 2, true}, result{last - 1, true}},
		{last - 9, result{last - 3, true}, result{last - 1, true}, result{last, true}},
		{last - 8, result{last - 2, true}, result{last, true}, none},
		{last - 7, result{last - 1, true}, none, none},
		{last - 6, result{last, true}, none, none},
		{last - 5, none, none, none},
		{last, none, none, none},
		{last + 1, none, none, none},
		{math.MaxInt - 9, none, none, none},
		{math.MaxInt - 6, none, none, none},
		{math.MaxInt - 5, none, none, none},
		{math.MaxInt, none, none, none},
	} {
		want := bounds{result{5, true}, x.exit, x.withdraw, x.pays}
		if b := expect(t, x.epoch, 64, 32, c); b != want {
			t.Errorf("the bounds in epoch %d are %+v; want %+v", x.epoch, b, want)
		}
	}
}

// P18.2: no bound is missing although Boundaries itself is as large as an epoch may be, or leaves no room at all.
func TestMostBoundaries(t *testing.T) {
	c := churning(t, 1, 0)
	for _, x := range []struct {
		weight               uint64
		exit, withdraw, pays result
	}{
		{last - 4, result{last - 3, true}, result{last - 1, true}, result{last, true}},
		{last - 3, result{last - 2, true}, result{last, true}, none},
		{last - 2, result{last - 1, true}, none, none},
		{last - 1, result{last, true}, none, none},
		{last, none, none, none},
	} {
		want := bounds{result{int(x.weight), true}, x.exit, x.withdraw, x.pays}
		if b := expect(t, 0, 0, x.weight, c); b != want {
			t.Errorf("the bounds for %d are %+v; want %+v", x.weight, b, want)
		}
		// One epoch more has the effect of one boundary more.
		if b, other := expect(t, 1, 0, x.weight, c), expect(t, 0, 0, x.weight+1, c); b.exit != other.exit || b.withdraw != other.withdraw || b.pay != other.pay {
			t.Errorf("the bounds for %d in epoch 1 are %+v; want %+v", x.weight, b, other)
		}
	}
}

// P18.2: a negative epoch has no bounds, whatever the weights are, although a sum with it may be that of an epoch.
func TestNegativeEpoch(t *testing.T) {
	for _, epoch := range []int{-1, -2, -5, -6, -7, -9, -100, -1 << 32, -last, -1 << 62, math.MinInt + 9, math.MinInt + 1, math.MinInt} {
		for _, weight := range []uint64{0, 32, 1 << 20, 1 << 40, top} {
			b := expect(t, epoch, 64, weight, config.Default())
			if b.exit != none || b.withdraw != none || b.pay != none {
				t.Errorf("the bounds for %d in epoch %d are %+v", weight, epoch, b)
			}
		}
	}
}

// P18.2: no boundaries, no bounds.
func TestNoBoundaries(t *testing.T) {
	for _, x := range []struct{ ahead, weight, minChurn uint64 }{
		{top, 1, 1 << 60},
		{1 << 63, 1 << 63, 1 << 60},
		{0, last + 1, 1},
		{0, top, 1},
		{top, top, 1},
	} {
		c := churning(t, x.minChurn, 0)
		for _, epoch := range epochs {
			if b := expect(t, epoch, x.ahead, x.weight, c); b != (bounds{}) {
				t.Errorf("the bounds for %d with %d before it in epoch %d are %+v", x.weight, x.ahead, epoch, b)
			}
		}
	}
}

// P18.2: each part of a bound, in every epoch of the samples.
func TestParts(t *testing.T) {
	for _, epoch := range epochs {
		for _, n := range []int{1, 2, 5, 6, 100, 4096, 1<<20 - 1} {
			for _, capacity := range []int{1, 16, 17, 4096} {
				for _, epochLen := range []int{1, 4, 4096} {
					c := unbonding(t, n, sweeping(t, capacity, epochLen, 6, 4, 2))
					for _, weight := range []uint64{0, 32, 33, 96, 1 << 44, 1<<45 - 64, 1<<45 - 63, top} {
						expect(t, epoch, 0, weight, c)
					}
				}
			}
		}
	}
}

// P18.3: cases on both sides of each rounding.
func TestSweep(t *testing.T) {
	for _, x := range []struct{ capacity, epochLen, visits, payments, partials, want int }{
		{16, 4, 6, 4, 2, 1},
		// 7, 8, 9 and 10 blocks
		{14, 4, 6, 4, 2, 1},
		{15, 4, 6, 4, 2, 1},
		{17, 4, 6, 4, 2, 2},
		{18, 4, 6, 4, 2, 2},
		{19, 4, 6, 4, 2, 2},
		// 4 and 5 blocks
		{8, 4, 6, 4, 2, 0},
		{9, 4, 6, 4, 2, 1},
		// The smaller one of visits and payments counts.
		{16, 4, 4, 6, 2, 1},
		{17, 4, 4, 6, 2, 2},
		{16, 4, 6, 6, 2, 0},
		{17, 4, 6, 6, 2, 1},
		{16, 4, 6, 4, 0, 0},
		{16, 4, 6, 4, 3, 3},
		{1, 1, 1, 1, 0, 0},
		{2, 1, 1, 1, 0, 1},
		{2, 2, 1, 1, 0, 0},
		{3, 2, 1, 1, 0, 1},
		{16, 1, 6, 4, 2, 7},
		{16, 7, 6, 4, 2, 1},
		{16, 8, 6, 4, 2, 0},
		{16, 9, 6, 4, 2, 0},
		{4096, 1, 1, 1, 0, 4095},
		{4096, 2, 1, 1, 0, 2047},
		{4096, 4095, 1, 1, 0, 1},
		{4096, 4096, 1, 1, 0, 0},
		{4095, 4095, 1, 1, 0, 0},
		{4096, 1, 4096, 4096, 4095, 4095},
		{4096, 1, 4096, 4096, 0, 0},
		{4096, 1, 4096, 4095, 0, 1},
		{4096, 1, 4096, 4096, 1, 1},
		{1, 4096, 4096, 4096, 0, 0},
	} {
		c := sweeping(t, x.capacity, x.epochLen, x.visits, x.payments, x.partials)
		if n := deadline.Sweep(c); n != x.want || n != sweep(c) {
			t.Errorf("Sweep of %d validators with %d visits, %d payments and %d partials in epochs of %d blocks = %d; want %d", x.capacity, x.visits, x.payments, x.partials, x.epochLen, n, x.want)
		}
	}
}

// P18.3: all small numbers.
func TestSweepMany(t *testing.T) {
	for capacity := 1; capacity <= 24; capacity++ {
		for epochLen := 1; epochLen <= 9; epochLen++ {
			for visits := 1; visits <= 6; visits++ {
				for payments := 1; payments <= 6; payments++ {
					for partials := range min(visits, payments) {
						c := sweeping(t, capacity, epochLen, visits, payments, partials)
						if n, want := deadline.Sweep(c), sweep(c); n != want {
							t.Errorf("Sweep of %d validators with %d visits, %d payments and %d partials in epochs of %d blocks = %d; want %d", capacity, visits, payments, partials, epochLen, n, want)
						}
					}
				}
			}
		}
	}
}

// P18.3: a sweep that begins with the first block of an epoch ends at most so many epochs later, and exactly so many if it visits an index last.
func TestSweepEnds(t *testing.T) {
	for _, c := range []api.Config{
		config.Default(),
		sweeping(t, 1, 1, 1, 1, 0),
		sweeping(t, 7, 2, 2, 3, 0),
		sweeping(t, 8, 2, 2, 3, 0),
		sweeping(t, 9, 2, 3, 2, 0),
		sweeping(t, 24, 3, 4, 5, 3),
		sweeping(t, 25, 3, 5, 5, 2),
	} {
		most := 0
		for at := range c.Capacity {
			for index := range c.Capacity {
				taken := epochsUntil(index, at, c)
				most = max(most, taken)
			}
		}
		if n := deadline.Sweep(c); n != most {
			t.Errorf("Sweep of %+v = %d; the cursor takes up to %d epochs", c, n, most)
		}
	}
}

// epochsUntil returns how many epochs later an index is visited, when all validators are ready and the sweep begins with the first block of an epoch and an index.
func epochsUntil(index, at int, c api.Config) int {
	ready := slices.Repeat([]bool{true}, c.Capacity)
	sweeper := cursor.New()
	sweeper.Sweep(ready, at, at)
	now := clock.New(c.EpochLen)
	for {
		if paid, _ := sweeper.Sweep(ready, c.Visits-c.Partials, c.Payments-c.Partials); slices.Contains(paid, index) {
			return now.Epoch()
		}
		now.Tick()
	}
}

// less reports whether a bound decreased. No bound is greater than all bounds.
func less(b, before result) bool {
	return b.ok && (!before.ok || b.n < before.n)
}

// steady checks that no bound decreased.
func steady(t *testing.T, what string, before, after bounds) {
	t.Helper()
	if less(after.boundaries, before.boundaries) || less(after.exit, before.exit) || less(after.withdraw, before.withdraw) || less(after.pay, before.pay) {
		t.Errorf("the bounds decreased from %+v to %+v with %s", before, after, what)
	}
}

// P18.4
func TestSteady(t *testing.T) {
	r := rand.New(rand.NewSource(18))
	amount := func(most uint64) uint64 { return r.Uint64() % (min(most, top-1)>>r.Intn(60) + 1) }
	for range 20000 {
		epoch := r.Intn(last>>r.Intn(40) + 1)
		ahead, weight := amount(1<<63), amount(1<<63)
		c := unbonding(t, 1+r.Intn(1<<20-1)>>r.Intn(20), churning(t, 1+amount(1<<60-1), amount(1<<60)))
		before := expect(t, epoch, ahead, weight, c)
		more := ahead + amount(top-ahead)
		steady(t, "ahead", before, expect(t, epoch, more, weight, c))
		more = weight + amount(top-weight)
		steady(t, "weight", before, expect(t, epoch, ahead, more, c))
		steady(t, "ForcedCap", before, expect(t, epoch, ahead, weight, with(t, c, func(c *api.Config) { c.ForcedCap += amount(1<<60 - c.ForcedCap) })))
		steady(t, "MinChurn", before, expect(t, epoch, ahead, weight, with(t, c, func(c *api.Config) { c.MinChurn -= amount(c.MinChurn - 1) })))
		longer := unbonding(t, c.Unbonding+r.Intn(1<<20-c.Unbonding), c)
		steady(t, "Unbonding", before, expect(t, epoch, ahead, weight, longer))
	}
}

// with changes a configuration to another valid one.
func with(t *testing.T, c api.Config, change func(c *api.Config)) api.Config {
	t.Helper()
	change(&c)
	return valid(t, c)
}

// P18.1 to P18.3: fields that are not mentioned do not matter.
func TestOtherFields(t *testing.T) {
	c := config.Default()
	other := valid(t, api.Config{
		Capacity: c.Capacity, QueueSize: 4096, MinDeposit: 1 << 50, MaxDeposit: 1 << 51, SupplyCap: 1 << 60, MinBalance: 1 << 40, MaxBalance: 1 << 59,
		MinChurn: c.MinChurn, Quotient: 1, ForcedCap: c.ForcedCap, Unbonding: c.Unbonding, SlashDelay: 1 << 20, RingLen: 4096,
		EpochLen: c.EpochLen, Visits: c.Visits, Payments: c.Payments, Partials: c.Partials, Merges: 4096, PenaltyNum: 1 << 32, PenaltyDen: 1 << 32,
	})
	for _, epoch := range epochs {
		for _, ahead := range amounts {
			for _, weight := range amounts {
				if b, want := all(epoch, ahead, weight, other), all(epoch, ahead, weight, c); b != want {
					t.Errorf("the bounds for %d with %d before it in epoch %d are %+v; want %+v", weight, ahead, epoch, b, want)
				}
			}
		}
	}
	if n, want := deadline.Sweep(other), deadline.Sweep(c); n != want {
		t.Errorf("Sweep = %d; want %d", n, want)
	}
}

// P1: no function panics, even if the configuration is not valid; a bool that says that there is no result still comes with 0.
func TestInvalidConfigurations(t *testing.T) {
	numbers := []int{0, 1, -1, 2, 4096, 1 << 32, -1 << 62, math.MaxInt, math.MinInt}
	r := rand.New(rand.NewSource(1))
	number := func() int { return numbers[r.Intn(len(numbers))] }
	amount := func() uint64 { return amounts[r.Intn(len(amounts))] }
	configurations := []api.Config{{}}
	for range 20000 {
		configurations = append(configurations, api.Config{Capacity: number(), MinChurn: amount(), ForcedCap: amount(), Unbonding: number(), EpochLen: number(), Visits: number(), Payments: number(), Partials: number()})
	}
	for _, c := range configurations {
		deadline.Sweep(c)
		b := all(epochs[r.Intn(len(epochs))], amount(), amount(), c)
		for _, x := range []result{b.boundaries, b.exit, b.withdraw, b.pay} {
			if !x.ok && x.n != 0 {
				t.Errorf("the bounds with the configuration %+v are %+v", c, b)
			}
		}
	}
}

// The functions may be called concurrently.
func TestConcurrent(t *testing.T) {
	c := config.Default()
	want := expected(5, 64, 32, c)
	var workers sync.WaitGroup
	for range 8 {
		workers.Go(func() {
			for range 1000 {
				if b, n := all(5, 64, 32, c), deadline.Sweep(c); b != want || n != 1 {
					t.Errorf("the bounds are %+v, and Sweep is %d", b, n)
					return
				}
			}
		})
	}
	workers.Wait()
}

// validator takes part in the system of the chapter.
type validator struct {
	status, class, exit int
	bounds              bounds
	forced              uint64 // the weight of the forced exits that are accepted later and processed before it
}

// system is the one for which the chapter promises the bounds.
type system struct {
	c          api.Config
	now        *clock.Clock
	queues     *lanes.Lanes
	churn      *meter.Meter
	sweeper    *cursor.Cursor
	validators []validator
	weights    []uint64
	granted    func() uint64
	extra      func() int // how many of the requests for partial withdrawals are not there
	tight      struct{ exit, pay int }
}

func start(c api.Config, granted func() uint64, extra func() int) *system {
	s := &system{c: c, now: clock.New(c.EpochLen), queues: lanes.New(c.Capacity), churn: meter.New(), sweeper: cursor.New(), granted: granted, extra: extra}
	s.validators, s.weights = make([]validator, c.Capacity), make([]uint64, c.Capacity)
	for i := range s.validators {
		s.validators[i].status = api.Active
	}
	return s
}

// accept accepts an exit, unless the validator is exiting already.
func (s *system) accept(t *testing.T, index, class int, weight uint64) {
	t.Helper()
	if s.validators[index].status != api.Active {
		return
	}
	ahead, _ := assign.Weight(s.weights, s.queues.Ahead(class)...)
	s.weights[index] = weight
	s.validators[index] = validator{status: api.Exiting, class: class, bounds: expect(t, s.now.Epoch(), ahead, weight, s.c)}
	s.queues.Push(class, index)
	if class == api.Forced {
		for _, waiting := range s.queues.All(api.Voluntary) {
			s.validators[waiting].forced += weight
		}
	}
}

// tick performs a block.
func (s *system) tick(t *testing.T) {
	t.Helper()
	if s.now.Tick() {
		s.begin(t)
	}
	ready := make([]bool, len(s.validators))
	for i, v := range s.validators {
		ready[i] = v.status == api.Withdrawable
	}
	paid, _ := s.sweeper.Sweep(ready, s.c.Visits-s.c.Partials+s.extra(), s.c.Payments-s.c.Partials+s.extra())
	for _, i := range paid {
		s.validators[i].status = api.Active
		s.tight.pay += s.within(t, i, s.now.Epoch(), s.validators[i].bounds.pay)
	}
}

// begin performs a boundary.
func (s *system) begin(t *testing.T) {
	t.Helper()
	epoch := s.now.Epoch()
	for i, v := range s.validators {
		if v.status == api.Unbonding && v.exit+s.c.Unbonding == epoch {
			s.validators[i].status = api.Withdrawable
			s.within(t, i, epoch, v.bounds.withdraw)
		}
	}
	for _, a := range assign.Step(epoch, s.queues, s.churn, s.granted(), s.weights) {
		v := &s.validators[a.Index]
		v.status, v.exit = api.Unbonding, a.Epoch
		s.tight.exit += s.within(t, a.Index, a.Epoch, v.bounds.exit)
	}
}

// within checks a bound if it is promised, and returns 1 if it is reached.
func (s *system) within(t *testing.T, index, epoch int, b result) int {
	t.Helper()
	if s.validators[index].forced > s.c.ForcedCap {
		return 0
	}
	if !b.ok || epoch > b.n {
		t.Errorf("it happens in epoch %d; the bound is %+v; weight %d of %+v", epoch, b, s.weights[index], s.validators[index])
	}
	if epoch == b.n {
		return 1
	}
	return 0
}

// P18.1 to P18.3: in the system of the chapter, the bounds hold, and there are exits that reach them.
func TestSystem(t *testing.T) {
	r := rand.New(rand.NewSource(4))
	exits, pays := 0, 0
	for range 400 {
		partials := r.Intn(3)
		c := sweeping(t, 1+r.Intn(12), 1+r.Intn(4), partials+1+r.Intn(3), partials+1+r.Intn(3), partials)
		c.MinChurn, c.ForcedCap = 1+uint64(r.Intn(12)), uint64(r.Intn(30))
		c = unbonding(t, 1+r.Intn(3), c)
		generous, spare, often := r.Intn(3), r.Intn(2), 1+r.Intn(10)
		s := start(c, func() uint64 { return c.MinChurn + uint64(r.Intn(generous+1)) }, func() int { return r.Intn(spare*partials + 1) })
		for range 400 {
			if r.Intn(often) == 0 {
				s.accept(t, r.Intn(c.Capacity), r.Intn(2), uint64(r.Intn(25)))
			}
			s.tick(t)
		}
		exits, pays = exits+s.tight.exit, pays+s.tight.pay
	}
	if exits < 100 || pays < 100 {
		t.Errorf("%d exits and %d payments reach their bounds", exits, pays)
	}
}

// P18.1: the bound is reached with a forced exit that has all of ForcedCap, and exceeded when there is more of it.
func TestForcedCap(t *testing.T) {
	for _, x := range []struct {
		forced uint64
		want   int
	}{{0, 4}, {32, 5}, {64, 6}, {65, 7}} {
		c := config.Default()
		s := start(c, func() uint64 { return c.MinChurn }, func() int { return 0 })
		s.accept(t, 0, api.Voluntary, 64)
		s.accept(t, 1, api.Voluntary, 32)
		s.accept(t, 2, api.Forced, x.forced)
		for s.validators[1].status == api.Exiting {
			s.tick(t)
		}
		if got, b := s.validators[1].exit, s.validators[1].bounds.exit; got != x.want || b != (result{6, true}) {
			t.Errorf("with a forced exit of %d, the exit epoch is %d, and its bound %+v; want %d and 6", x.forced, got, b, x.want)
		}
	}
}
