package activate_test

import (
	"math"
	"math/big"
	"math/rand"
	"slices"
	"sync"
	"testing"

	"egress/activate"
	"egress/ring"
)

const top = math.MaxUint64

// longest is the greatest size of a ring.
const longest = 1 << 20

// noIndices are numbers that are no index of a short slice.
var noIndices = []int{math.MinInt, math.MinInt + 1, -1 << 32, -3, -2, -1, 1 << 20, 1 << 32, 1<<32 + 1, math.MaxInt - 1, math.MaxInt}

// limits are amounts at which the width of a word or the sign of an int matters, and some small ones.
var limits = []uint64{0, 1, 2, 5, 1<<32 - 1, 1 << 32, 1<<63 - 1, 1 << 63, 1<<63 + 1, top - 1, top}

func integer(a uint64) *big.Int { return new(big.Int).SetUint64(a) }

// weightOf is the weight of a validator as the document defines it.
func weightOf(weights []uint64, index int) uint64 {
	for i, weight := range weights {
		if i == index {
			return weight
		}
	}
	return 0
}

// weightsOf returns the weights of the validators with some indices.
func weightsOf(weights []uint64, indices []int) []uint64 {
	l := make([]uint64, len(indices))
	for i, index := range indices {
		l[i] = weightOf(weights, index)
	}
	return l
}

// total returns a sum as an integer of any size.
func total(weights []uint64) *big.Int {
	sum := new(big.Int)
	for _, weight := range weights {
		sum.Add(sum, integer(weight))
	}
	return sum
}

// activated is the specification of a boundary: it returns how many validators with these weights are activated. That is the greatest number of them whose sum does not exceed the limit, but at least one.
func activated(limit uint64, weights []uint64) int {
	for n := len(weights); n > 1; n-- {
		if total(weights[:n]).Cmp(integer(limit)) <= 0 {
			return n
		}
	}
	return min(1, len(weights))
}

// awaited is the specification of Wait: the number of boundaries until none of the weights is left, the last of which is that of the new validator.
func awaited(limit uint64, weights []uint64, weight uint64) int {
	left := append(slices.Clone(weights), weight)
	boundary := 0
	for len(left) > 0 {
		left = left[activated(limit, left):]
		boundary++
	}
	return boundary
}

// newQueue returns a ring with indices.
func newQueue(t *testing.T, size int, indices ...int) *ring.Ring[int] {
	t.Helper()
	q := ring.New[int](size)
	push(t, q, indices...)
	return q
}

func push(t *testing.T, q *ring.Ring[int], indices ...int) {
	t.Helper()
	if n := q.Push(indices...); n != len(indices) {
		t.Fatalf("Push of %d elements = %d", len(indices), n)
	}
}

// step performs a boundary, compares its results with the specification, and returns the activated indices.
func step(t *testing.T, q *ring.Ring[int], limit uint64, weights ...uint64) []int {
	t.Helper()
	before, free, kept := q.All(), q.Free(), slices.Clone(weights)
	n := activated(limit, weightsOf(weights, before))
	got := activate.Step(q, limit, weights)
	if !slices.Equal(got, before[:n]) {
		t.Fatalf("with %v: Step(limit %d, %v) = %v; want %v", before, limit, kept, got, before[:n])
	}
	if rest := q.All(); !slices.Equal(rest, before[n:]) || q.Len() != len(before)-n || q.Free() != free+n {
		t.Fatalf("with %v: Step(limit %d, %v) left %v, and capacity for %d; want %v, and %d", before, limit, kept, rest, q.Free(), before[n:], free+n)
	}
	if !slices.Equal(weights, kept) {
		t.Fatalf("Step changed the weights %v to %v", kept, weights)
	}
	return got
}

// expectWait compares the result of Wait with the specification, and returns it.
func expectWait(t *testing.T, q *ring.Ring[int], limit uint64, weights []uint64, weight uint64) int {
	t.Helper()
	before, free, kept := q.All(), q.Free(), slices.Clone(weights)
	want := awaited(limit, weightsOf(weights, before), weight)
	got := activate.Wait(q, limit, weights, weight)
	if got != want {
		t.Fatalf("with %v: Wait(limit %d, %v, %d) = %d; want %d", before, limit, kept, weight, got, want)
	}
	if rest := q.All(); !slices.Equal(rest, before) || q.Free() != free {
		t.Fatalf("Wait changed the ring from %v to %v, and its capacity from %d to %d", before, rest, free, q.Free())
	}
	if !slices.Equal(weights, kept) {
		t.Fatalf("Wait changed the weights %v to %v", kept, weights)
	}
	return got
}

// lists returns all lists of at most length values.
func lists(values []uint64, length int) [][]uint64 {
	all := [][]uint64{nil}
	last := all
	for range length {
		var next [][]uint64
		for _, list := range last {
			for _, value := range values {
				next = append(next, append(slices.Clone(list), value))
			}
		}
		all, last = append(all, next...), next
	}
	return all
}

// upTo returns the indices of n elements in order.
func upTo(n int) []int {
	l := make([]int, n)
	for i := range l {
		l[i] = i
	}
	return l
}

// P14.1 and P14.2: the example of the document.
func TestExample(t *testing.T) {
	weights := []uint64{25, 4, 5, 2}
	q := ring.New[int](4)
	for i, want := range []int{1, 2, 2, 3} {
		if got := activate.Wait(q, 10, weights, weights[i]); got != want {
			t.Errorf("Wait for the weight %d = %d; want %d", weights[i], got, want)
		}
		push(t, q, i)
	}
	for i, want := range [][]int{{0}, {1, 2}, {3}, nil, nil} {
		if got := activate.Step(q, 10, weights); !slices.Equal(got, want) {
			t.Errorf("boundary %d: Step = %v; want %v", i+1, got, want)
		}
	}
}

// P14.1: a boundary, with the indices that are activated and those that remain.
func TestStep(t *testing.T) {
	weights := []uint64{25, 4, 5, 2, 0, 10, 11}
	for _, x := range []struct {
		limit     uint64
		queue     []int
		activated []int
	}{
		{10, nil, nil},
		{10, []int{3}, []int{3}},
		{10, []int{1, 2}, []int{1, 2}},
		// Exactly the limit, and one more.
		{11, []int{1, 2, 3}, []int{1, 2, 3}},
		{10, []int{1, 2, 3}, []int{1, 2}},
		{10, []int{5, 1}, []int{5}},
		// The first one is activated although it exceeds the limit, and then not even a weight of 0 fits.
		{10, []int{6}, []int{6}},
		{10, []int{6, 4, 3}, []int{6}},
		{10, []int{0, 1}, []int{0}},
		{10, []int{5, 4, 4}, []int{5, 4, 4}},
		{10, []int{4, 6, 4}, []int{4}},
		// Those after one that does not fit are not activated, even if they would fit.
		{10, []int{1, 0, 3}, []int{1}},
		{10, []int{3, 2, 1, 3, 4}, []int{3, 2}},
		// Without a limit, those without a weight are activated together.
		{0, []int{4, 4, 4}, []int{4, 4, 4}},
		{0, []int{4, 3, 4}, []int{4}},
		{0, []int{3, 4}, []int{3}},
		{top, []int{6, 0, 5, 4}, []int{6, 0, 5, 4}},
	} {
		q := newQueue(t, 8, x.queue...)
		if got := step(t, q, x.limit, weights...); !slices.Equal(got, x.activated) {
			t.Errorf("with %v and the limit %d: Step = %v; want %v", x.queue, x.limit, got, x.activated)
		}
	}
}

// P14.1: nothing is carried over to the next boundary, whether the limit was used or exceeded.
func TestNothingIsCarriedOver(t *testing.T) {
	weights := []uint64{1, 10, 30, 2, 9}
	q := newQueue(t, 8, 0, 1, 2, 3, 4, 0)
	for i, want := range [][]int{{0}, {1}, {2}, {3}, {4, 0}, nil} {
		if got := step(t, q, 10, weights...); !slices.Equal(got, want) {
			t.Errorf("boundary %d: Step = %v; want %v", i+1, got, want)
		}
	}
	// Boundaries without a validator do not add to a later limit either.
	push(t, q, 1, 0)
	if got := step(t, q, 10, weights...); !slices.Equal(got, []int{1}) {
		t.Errorf("after a boundary without a validator: Step = %v", got)
	}
}

// P14.1: each boundary has its own limit and its own weights.
func TestStepWithOtherLimits(t *testing.T) {
	q := newQueue(t, 8, 0, 1, 2, 0, 1, 2)
	for i, x := range []struct {
		limit   uint64
		weights []uint64
		want    []int
	}{
		{3, []uint64{2, 1, 1}, []int{0, 1}},
		{0, []uint64{0, 0, 7}, []int{2}},
		{100, []uint64{200, 0, 0}, []int{0}},
		{0, nil, []int{1, 2}},
	} {
		if got := step(t, q, x.limit, x.weights...); !slices.Equal(got, x.want) {
			t.Errorf("boundary %d: Step = %v; want %v", i+1, got, x.want)
		}
	}
}

// P14.2: a new validator, after those that wait.
func TestWait(t *testing.T) {
	weights := []uint64{25, 4, 5, 2, 0, 10}
	for _, x := range []struct {
		limit  uint64
		queue  []int
		weight uint64
		want   int
	}{
		// The first one is activated at the next boundary, whatever its weight is.
		{10, nil, 0, 1},
		{10, nil, 11, 1},
		{10, nil, top, 1},
		{0, nil, top, 1},
		{10, []int{1}, 6, 1},
		{10, []int{1}, 7, 2},
		{10, []int{1, 2}, 1, 1},
		{10, []int{1, 2}, 2, 2},
		{10, []int{0}, 0, 2},
		{10, []int{0, 1, 2}, 1, 2},
		{10, []int{0, 1, 2}, 2, 3},
		{10, []int{5, 5, 5}, 0, 3},
		{10, []int{5, 5, 5}, 1, 4},
		{0, []int{4, 4}, 0, 1},
		{0, []int{4, 4}, 1, 2},
		{0, []int{1, 2, 3}, 0, 4},
		{top, []int{0, 5}, top, 2},
		{top, []int{0, 5}, top - 35, 1},
		{top, []int{0, 5}, top - 34, 2},
	} {
		q := newQueue(t, 8, x.queue...)
		if got := expectWait(t, q, x.limit, weights, x.weight); got != x.want {
			t.Errorf("with %v and the limit %d: Wait for the weight %d = %d; want %d", x.queue, x.limit, x.weight, got, x.want)
		}
	}
}

// P14.2: the capacity of the ring does not matter.
func TestWaitWithFullRing(t *testing.T) {
	for _, size := range []int{1, 2, 3, 7, 8} {
		q := newQueue(t, size, upTo(size)...)
		for limit := range uint64(9) {
			for weight := range uint64(4) {
				expectWait(t, q, limit, []uint64{1, 3, 0, 2, 2}, weight)
			}
		}
		if q.Free() != 0 {
			t.Errorf("a full ring has capacity for %d", q.Free())
		}
	}
}

// P14.2: the weight is that of the new validator only; no element of the weights is.
func TestWaitWeight(t *testing.T) {
	for _, weights := range [][]uint64{nil, {9}, {9, 9}, {9, 9, 9}, {0, 0, 0, 0}} {
		for _, queue := range [][]int{nil, {0}, {1}, {0, 1}, {2, 2}} {
			q := newQueue(t, 4, queue...)
			for weight := range uint64(12) {
				expectWait(t, q, 10, weights, weight)
			}
		}
	}
}

// P14.1 and P14.2: a nil ring.
func TestNil(t *testing.T) {
	for _, none := range []*ring.Ring[int]{nil, ring.New[int](0), ring.New[int](-1), ring.New[int](longest + 1)} {
		for _, limit := range limits {
			for _, weights := range [][]uint64{nil, {}, {1, 2, 3}} {
				if got := activate.Step(none, limit, weights); len(got) != 0 {
					t.Errorf("Step of a nil ring = %v", got)
				}
				for _, weight := range limits {
					if got := activate.Wait(none, limit, weights, weight); got != 0 {
						t.Errorf("Wait for a nil ring = %d", got)
					}
				}
			}
		}
	}
}

// P14.1 and P14.2: a validator without an element in the weights has the weight 0.
func TestWithoutWeight(t *testing.T) {
	for _, weights := range [][]uint64{nil, {}, {7}, {7, 7, 7}} {
		queue := append(slices.Clone(noIndices), len(weights), len(weights)+1)
		for _, limit := range []uint64{0, 1, 7, top} {
			q := newQueue(t, 32, queue...)
			if got := expectWait(t, q, limit, weights, limit); got != 1 {
				t.Errorf("weights %v and limit %d: Wait = %d; want 1", weights, limit, got)
			}
			if got := step(t, q, limit, weights...); len(got) != len(queue) {
				t.Errorf("weights %v and limit %d: Step = %v", weights, limit, got)
			}
			q = newQueue(t, 32, append(slices.Clone(queue), 0, -1)...)
			expectWait(t, q, limit, weights, 1)
			step(t, q, limit, weights...)
		}
	}
}

// P14.1 and P14.2: an index may occur several times, and its weight counts each time.
func TestRepeatedIndices(t *testing.T) {
	q := newQueue(t, 8, 1, 1, 0, 1, 1, 1, 0)
	for range 5 {
		expectWait(t, q, 7, []uint64{5, 3}, 1)
		step(t, q, 7, 5, 3)
	}
}

// activateAll performs boundaries until the ring is empty, and compares Wait before each of them.
func activateAll(t *testing.T, q *ring.Ring[int], limit uint64, weights []uint64, weight uint64) {
	t.Helper()
	for q.Len() > 0 {
		expectWait(t, q, limit, weights, weight)
		step(t, q, limit, weights...)
	}
	expectWait(t, q, limit, weights, weight)
	step(t, q, limit, weights...)
}

// P14.1 and P14.2: all queues of up to 5 validators with small weights.
func TestSmallWeights(t *testing.T) {
	for _, weights := range lists([]uint64{0, 1, 2, 3, 5}, 5) {
		for limit := range uint64(6) {
			q := newQueue(t, 5, upTo(len(weights))...)
			activateAll(t, q, limit, weights, limit/2)
		}
	}
}

// P14.1 and P14.2: sums are integers of any size: sums that would wrap around do not fit into any limit.
func TestLargeWeights(t *testing.T) {
	for _, weights := range lists(limits, 3) {
		for _, limit := range limits {
			q := newQueue(t, 3, upTo(len(weights))...)
			activateAll(t, q, limit, weights, limit)
			push(t, q, upTo(len(weights))...)
			expectWait(t, q, limit, weights, top)
		}
	}
}

// P14.1 and P14.2: both sides of the limit, for two and for three weights.
func TestBothSidesOfTheLimit(t *testing.T) {
	for _, limit := range limits {
		for _, first := range limits {
			for _, change := range []uint64{top - 1, top, 0, 1, 2} {
				// The difference may wrap around; then the weight is a large one.
				second := limit - first + change
				for _, third := range []uint64{0, 1, top} {
					q := newQueue(t, 3, 0, 1, 2)
					activateAll(t, q, limit, []uint64{first, second, third}, second)
					q = newQueue(t, 3, 2, 0)
					expectWait(t, q, limit, []uint64{first, 0, third}, second)
				}
			}
		}
	}
}

// P14.1: a sum of exactly 2^64 - 1 fits into the greatest limit; sums of 2^64 and more do not.
func TestOverflow(t *testing.T) {
	for _, x := range []struct {
		limit   uint64
		weights []uint64
		want    int
	}{
		{top, []uint64{top - 1, 1, 0}, 3},
		{top, []uint64{top, 0, 0}, 3},
		{top, []uint64{top, 1, 0}, 1},
		{top, []uint64{top, top}, 1},
		{top, []uint64{top - 1, 1, 1}, 2},
		{top, []uint64{1 << 63, 1 << 63}, 1},
		{top, []uint64{1 << 63, 1<<63 - 1, 1 << 63}, 2},
		{0, []uint64{1, top}, 1},
		{10, []uint64{5, top - 4, 1}, 1},
		{10, []uint64{5, top, 1}, 1},
		{10, []uint64{11, top - 10}, 1},
		{1 << 63, []uint64{1 << 63, 1 << 63}, 1},
	} {
		q := newQueue(t, 3, upTo(len(x.weights))...)
		if got := step(t, q, x.limit, x.weights...); len(got) != x.want {
			t.Errorf("Step(limit %d, %v) activates %d; want %d", x.limit, x.weights, len(got), x.want)
		}
	}
}

// P14.1 to P14.3: long sequences with changing limits and weights, small ones and such that sums exceed a uint64.
func TestRandomSequences(t *testing.T) {
	random := rand.New(rand.NewSource(14))
	for round := range 400 {
		amount := func() uint64 { return uint64(random.Intn(9)) }
		if round%4 == 0 {
			amount = func() uint64 { return random.Uint64() >> random.Intn(3) }
		}
		q := ring.New[int](20)
		weights := make([]uint64, random.Intn(8))
		var pushed, got []int
		for range 60 {
			for range random.Intn(5) {
				index := random.Intn(10) - 1
				if q.Push(index) == 1 {
					pushed = append(pushed, index)
				}
			}
			for i := range weights {
				weights[i] = amount()
			}
			limit := amount() * uint64(random.Intn(3))
			expectWait(t, q, limit, weights, amount())
			waiting := q.Len()
			batch := step(t, q, limit, weights...)
			if waiting > 0 && len(batch) == 0 {
				t.Fatalf("%d validators wait, and none is activated", waiting)
			}
			got = append(got, batch...)
		}
		if want := append(got, q.All()...); !slices.Equal(pushed, want) {
			t.Fatalf("appended were %v; activated and waiting are %v", pushed, want)
		}
	}
}

// P14.3: each boundary activates at least one validator, and all are activated in the order in which they were appended.
func TestOrder(t *testing.T) {
	for limit := range uint64(12) {
		for _, weights := range [][]uint64{nil, {12, 12, 12, 12}, {5, 0, 12, 1}, {3, 1, 4, 1}} {
			q := newQueue(t, 8, 7, 3, 0, 2, 1, 3, 0, 2)
			queue := q.All()
			var got []int
			for boundary := range len(queue) {
				waiting := q.Len()
				batch := activate.Step(q, limit, weights)
				if waiting > 0 && len(batch) == 0 {
					t.Errorf("limit %d and weights %v: nobody is activated at boundary %d", limit, weights, boundary+1)
				}
				got = append(got, batch...)
			}
			if !slices.Equal(got, queue) || q.Len() != 0 {
				t.Errorf("limit %d and weights %v: %v are activated; want %v", limit, weights, got, queue)
			}
		}
	}
}

// P14.2: a validator is activated at the boundary that Wait returned when it was appended, whatever is appended after it.
func TestWaitAgreesWithStep(t *testing.T) {
	random := rand.New(rand.NewSource(142))
	for range 1000 {
		const size = 12
		limit := uint64(random.Intn(15))
		q := ring.New[int](size)
		weights := make([]uint64, 3*size)
		want := map[int]int{}
		next := 0
		for boundary := 1; boundary <= 20 || q.Len() > 0; boundary++ {
			for next < len(weights) && q.Free() > 0 && random.Intn(3) > 0 {
				weights[next] = uint64(random.Intn(20))
				want[next] = boundary - 1 + activate.Wait(q, limit, weights, weights[next])
				push(t, q, next)
				next++
			}
			for _, index := range activate.Step(q, limit, weights) {
				if want[index] != boundary {
					t.Fatalf("limit %d, weights %v: %d is activated at boundary %d; Wait returned %d", limit, weights, index, boundary, want[index])
				}
			}
		}
	}
}

// P1: the largest ring, with all validators at one boundary and with one at each of many boundaries.
func TestLargest(t *testing.T) {
	weights := slices.Repeat([]uint64{1}, longest)
	queue := upTo(longest)
	slices.Reverse(queue)
	q := newQueue(t, longest, queue...)
	for limit, want := range map[uint64]int{0: longest + 1, 1: longest + 1, 2: longest/2 + 1, 1000: longest/1000 + 1, longest: 2, longest + 1: 1, top: 1} {
		if got := activate.Wait(q, limit, weights, 1); got != want {
			t.Errorf("limit %d: Wait = %d; want %d", limit, got, want)
		}
	}
	for boundary := range 1000 {
		if got := activate.Step(q, 1, weights); !slices.Equal(got, queue[boundary:boundary+1]) {
			t.Fatalf("boundary %d: Step = %v; want %v", boundary+1, got, queue[boundary])
		}
	}
	if got := activate.Step(q, longest, weights); !slices.Equal(got, queue[1000:]) || q.Len() != 0 {
		t.Errorf("Step activates %d validators and leaves %d", len(got), q.Len())
	}
}

// P14.1 and P14.2: the place of the first element in the ring does not matter.
func TestEveryPlaceInTheRing(t *testing.T) {
	weights := []uint64{3, 8, 1, 4}
	for place := range 9 {
		q := ring.New[int](4)
		for range place {
			push(t, q, 0)
			q.Pop()
		}
		push(t, q, 2, 0, 1, 3)
		activateAll(t, q, 5, weights, 1)
	}
}

// Rule 4: elements beyond the length of the weights are not read.
func TestCapacityIsNotRead(t *testing.T) {
	weights := []uint64{5, 9, 9, 9}[:1]
	q := newQueue(t, 4, 0, 1, 2, 3)
	if got := activate.Wait(q, 5, weights, 0); got != 1 {
		t.Errorf("Wait = %d; want 1", got)
	}
	if got := activate.Step(q, 5, weights); len(got) != 4 {
		t.Errorf("Step = %v", got)
	}
}

// Rule 4: a result shares no memory with the ring or with another result, and the ring none with the weights.
func TestResultsAreCopies(t *testing.T) {
	q := newQueue(t, 4, 0, 1, 2, 3)
	weights := []uint64{1, 1, 1, 1}
	first := activate.Step(q, 2, weights)
	kept := slices.Clone(first)
	push(t, q, 4, 5)
	clear(weights)
	second := activate.Step(q, 2, weights)
	if want := []int{2, 3, 4, 5}; !slices.Equal(second, want) {
		t.Errorf("Step = %v; want %v", second, want)
	}
	clear(second[:cap(second)])
	push(t, q, 8, 9)
	if !slices.Equal(first, kept) {
		t.Errorf("later calls changed %v to %v", kept, first)
	}
	clear(first[:cap(first)])
	if got := q.All(); !slices.Equal(got, []int{8, 9}) {
		t.Errorf("a change of a result made the ring %v", got)
	}
}

// P2 and rule 6: other rings are independent, and the functions may be called concurrently.
func TestConcurrent(t *testing.T) {
	weights := []uint64{25, 4, 5, 2}
	var workers sync.WaitGroup
	for range 8 {
		workers.Go(func() {
			q := ring.New[int](4)
			for round := range 100 {
				q.Push(0, 1, 2)
				wait := activate.Wait(q, 10, weights, weights[3])
				first, second := activate.Step(q, 10, weights), activate.Step(q, 10, weights)
				if wait != 3 || !slices.Equal(first, []int{0}) || !slices.Equal(second, []int{1, 2}) {
					t.Errorf("round %d: Wait = %d and Step = %v, %v", round, wait, first, second)
					return
				}
			}
		})
	}
	workers.Wait()
}
