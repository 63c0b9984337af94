package assign_test

import (
	"math"
	"math/big"
	"math/rand"
	"slices"
	"sync"
	"testing"

	"egress/api"
	"egress/assign"
	"egress/lanes"
	"egress/meter"
)

const top = math.MaxUint64

// farthest is the last boundary that Forecast returns.
const farthest = 1 << 31

// noIndices are numbers that are no index of a short slice.
var noIndices = []int{math.MinInt, math.MinInt + 1, -1 << 32, -3, -2, -1, 1 << 20, 1 << 32, 1<<32 + 1, math.MaxInt - 1, math.MaxInt}

func integer(a uint64) *big.Int { return new(big.Int).SetUint64(a) }

// weightOf is the weight of a validator as the document defines it.
func weightOf(weights []uint64, index int) uint64 {
	for i, weight := range weights {
		if i == index {
			return weight
		}
	}
	return 0
}

// model is the specification of the queues and the meter at the boundaries. No integer wraps around.
type model struct {
	forced, voluntary                       []int
	balance, spent, granted, taken, dropped *big.Int
}

// grant increases the balance, as far as it does not exceed 2^64 - 1.
func (m *model) grant(limit uint64) {
	before := m.balance
	m.balance = new(big.Int).Add(before, integer(limit))
	if m.balance.Cmp(integer(top)) > 0 {
		m.balance = integer(top)
	}
	m.granted.Add(m.granted, m.balance)
	m.granted.Sub(m.granted, before)
}

// fitting returns how many of the first exits have weights that add up to at most the balance, and this sum.
func (m *model) fitting(queue []int, weights []uint64) (int, *big.Int) {
	sum := new(big.Int)
	for i, index := range queue {
		next := new(big.Int).Add(sum, integer(weightOf(weights, index)))
		if next.Cmp(m.balance) > 0 {
			return i, sum
		}
		sum = next
	}
	return len(queue), sum
}

// step is the specification of Step: a whole batch of exits is assigned at once.
func (m *model) step(epoch int, limit uint64, weights []uint64) []api.Assignment {
	m.grant(limit)
	queue := slices.Concat(m.forced, m.voluntary)
	n, sum := m.fitting(queue, weights)
	var assigned []api.Assignment
	for i, index := range queue[:n] {
		class := 0
		if i >= len(m.forced) {
			class = 1
		}
		assigned = append(assigned, api.Assignment{Index: index, Class: class, Epoch: epoch + 1})
	}
	ofForced := min(n, len(m.forced))
	m.forced, m.voluntary = slices.Clone(m.forced[ofForced:]), slices.Clone(m.voluntary[n-ofForced:])
	m.balance = new(big.Int).Sub(m.balance, sum)
	m.taken.Add(m.taken, sum)
	m.spent = sum
	if n == len(queue) {
		m.dropped.Add(m.dropped, m.balance)
		m.balance = new(big.Int)
	}
	return assigned
}

// reduced returns a number modulo 2^64.
func reduced(a *big.Int) uint64 {
	return new(big.Int).And(a, integer(top)).Uint64()
}

func (m *model) totals() meter.Totals {
	return meter.Totals{Granted: reduced(m.granted), Taken: reduced(m.taken), Dropped: reduced(m.dropped)}
}

// pair is the queues and a meter together with their specification.
type pair struct {
	lanes *lanes.Lanes
	meter *meter.Meter
	model model
}

// newPair returns a pair with empty queues and a balance that was granted before.
func newPair(size int, balance uint64) *pair {
	m := model{nil, nil, integer(balance), new(big.Int), integer(balance), new(big.Int), new(big.Int)}
	p := &pair{lanes.New(size), meter.New(), m}
	p.meter.Grant(balance)
	return p
}

// push appends exits to the queue of a class.
func (p *pair) push(t *testing.T, class int, indices ...int) {
	t.Helper()
	for _, index := range indices {
		if code := p.lanes.Push(class, index); code != api.OK {
			t.Fatalf("Push(%d, %d) = %d", class, index, code)
		}
		if class == api.Forced {
			p.model.forced = append(p.model.forced, index)
		} else {
			p.model.voluntary = append(p.model.voluntary, index)
		}
	}
}

// step performs a boundary, compares its results, and returns the assignments.
func (p *pair) step(t *testing.T, epoch int, limit uint64, weights ...uint64) []api.Assignment {
	t.Helper()
	forced, voluntary, before := p.model.forced, p.model.voluntary, p.model.balance
	arguments := slices.Clone(weights)
	got := assign.Step(epoch, p.lanes, p.meter, limit, weights)
	want := p.model.step(epoch, limit, weights)
	if !slices.Equal(got, want) {
		t.Fatalf("with %v, %v and the balance %v: Step(%d, limit %d, %v) = %v; want %v", forced, voluntary, before, epoch, limit, weights, got, want)
	}
	if !slices.Equal(weights, arguments) {
		t.Fatalf("Step changed the weights %v to %v", arguments, weights)
	}
	p.check(t)
	p.checkConsequences(t, got, before, limit, weights)
	return got
}

// check compares all that can be read from the queues and from the meter with the model.
func (p *pair) check(t *testing.T) {
	t.Helper()
	if got := p.lanes.All(api.Forced); !slices.Equal(got, p.model.forced) {
		t.Fatalf("the forced exits %v remain; want %v", got, p.model.forced)
	}
	if got := p.lanes.All(api.Voluntary); !slices.Equal(got, p.model.voluntary) {
		t.Fatalf("the voluntary exits %v remain; want %v", got, p.model.voluntary)
	}
	if got := p.meter.Balance(); integer(got).Cmp(p.model.balance) != 0 {
		t.Fatalf("the balance is %d; want %v", got, p.model.balance)
	}
	if got := p.meter.Spent(); integer(got).Cmp(p.model.spent) != 0 {
		t.Fatalf("the weight %d is spent; want %v", got, p.model.spent)
	}
	if got := p.meter.Totals(); got != p.model.totals() {
		t.Fatalf("the totals are %+v; want %+v", got, p.model.totals())
	}
}

// checkConsequences checks P13.4.
func (p *pair) checkConsequences(t *testing.T, assigned []api.Assignment, before *big.Int, limit uint64, weights []uint64) {
	t.Helper()
	rest := new(big.Int).Add(before, integer(limit))
	for _, a := range assigned {
		rest.Sub(rest, integer(weightOf(weights, a.Index)))
	}
	if rest.Sign() < 0 {
		t.Fatalf("with the balance %v and the limit %d, %v exceed the churn by %v", before, limit, assigned, rest)
	}
	if index, _, ok := p.lanes.Head(); ok && p.meter.Balance() >= weightOf(weights, index) {
		t.Fatalf("%d waits with the weight %d and the balance %d", index, weightOf(weights, index), p.meter.Balance())
	}
}

// P13.1: the example of the document.
func TestStepExample(t *testing.T) {
	l, m := lanes.New(4), meter.New()
	for i := range 3 {
		l.Push(api.Voluntary, i)
	}
	weights := []uint64{4, 25, 3}
	for i, want := range []struct {
		assigned []api.Assignment
		balance  uint64
	}{
		{[]api.Assignment{{Index: 0, Class: api.Voluntary, Epoch: 8}}, 6},
		{nil, 16},
		{[]api.Assignment{{Index: 1, Class: api.Voluntary, Epoch: 10}}, 1},
		{[]api.Assignment{{Index: 2, Class: api.Voluntary, Epoch: 11}}, 0},
		{nil, 0},
	} {
		if got := assign.Step(7+i, l, m, 10, weights); !slices.Equal(got, want.assigned) || m.Balance() != want.balance {
			t.Errorf("boundary %d: Step = %v with the balance %d; want %v and %d", i+1, got, m.Balance(), want.assigned, want.balance)
		}
	}
	if got, want := m.Totals(), (meter.Totals{Granted: 50, Taken: 32, Dropped: 18}); got != want {
		t.Errorf("the totals are %+v; want %+v", got, want)
	}
}

// P13.1: forced exits are assigned before voluntary ones, and each has its class.
func TestStepClasses(t *testing.T) {
	p := newPair(4, 0)
	p.push(t, api.Voluntary, 3, 1)
	p.push(t, api.Forced, 0, 2)
	got := p.step(t, 0, 12, 2, 5, 3, 4)
	want := []api.Assignment{{Index: 0, Class: api.Forced, Epoch: 1}, {Index: 2, Class: api.Forced, Epoch: 1}, {Index: 3, Class: api.Voluntary, Epoch: 1}}
	if !slices.Equal(got, want) {
		t.Errorf("Step = %v; want %v", got, want)
	}
	// A forced exit overtakes the voluntary one, and takes the churn that was carried over for it.
	p.push(t, api.Forced, 4)
	got = p.step(t, 1, 1, 0, 5, 0, 0, 4)
	want = []api.Assignment{{Index: 4, Class: api.Forced, Epoch: 2}}
	if !slices.Equal(got, want) || p.meter.Balance() != 0 {
		t.Errorf("Step = %v with the balance %d; want %v", got, p.meter.Balance(), want)
	}
}

// P13.1: an exit that waits holds up all exits after it, also those of the other class and those without a weight.
func TestStepWaiting(t *testing.T) {
	weights := []uint64{9, 1, 0, 2}
	for _, class := range []int{api.Forced, api.Voluntary} {
		p := newPair(8, 0)
		p.push(t, class, 0, 1, 2)
		p.push(t, api.Voluntary, 3)
		for epoch := range 4 {
			if got := p.step(t, epoch, 2, weights...); len(got) != 0 {
				t.Errorf("class %d, boundary %d: Step = %v", class, epoch+1, got)
			}
			if want := uint64(2 * (epoch + 1)); p.meter.Balance() != want {
				t.Errorf("class %d, boundary %d: the balance is %d; want %d", class, epoch+1, p.meter.Balance(), want)
			}
		}
		if got := p.step(t, 4, 2, weights...); len(got) != 3 {
			t.Errorf("class %d: Step = %v", class, got)
		}
	}
}

// P13.1: both sides of the balance, and of the balance plus the limit.
func TestStepLimits(t *testing.T) {
	values := []uint64{0, 1, 2, 5, 1<<32 - 1, 1 << 32, 1<<63 - 1, 1 << 63, top - 1, top}
	for _, balance := range values {
		for _, limit := range values {
			for _, change := range []uint64{top - 1, top, 0, 1, 2} {
				for _, second := range []uint64{0, 1, top} {
					p := newPair(2, balance)
					p.push(t, api.Forced, 0)
					p.push(t, api.Voluntary, 1)
					// The sum may wrap around; then the weight is a small one.
					p.step(t, 3, limit, balance+limit+change, second)
					p.step(t, 4, limit, balance+limit+change, second)
				}
			}
		}
	}
}

// P13.1: the balance is dropped if both queues are empty in the end, and only then.
func TestStepDrop(t *testing.T) {
	for _, x := range []struct {
		forced, voluntary []int
		dropped           uint64
	}{
		{nil, nil, 17},
		{[]int{0}, nil, 12},
		{nil, []int{0}, 12},
		{[]int{0}, []int{1}, 9},
		{[]int{0, 2}, nil, 0},
		{nil, []int{0, 2}, 0},
		{[]int{0}, []int{2}, 0},
		{[]int{2}, []int{0}, 0},
	} {
		p := newPair(2, 7)
		p.push(t, api.Forced, x.forced...)
		p.push(t, api.Voluntary, x.voluntary...)
		p.step(t, 0, 10, 5, 3, 18)
		if got := p.meter.Totals().Dropped; got != x.dropped {
			t.Errorf("with %v and %v: %d was dropped; want %d", x.forced, x.voluntary, got, x.dropped)
		}
	}
}

// P13.1: an exit without an element in the weights has the weight 0, which is taken from an empty balance too.
func TestStepWithoutWeight(t *testing.T) {
	for _, weights := range [][]uint64{nil, {}, {7}, {7, 7, 7}} {
		for _, class := range []int{api.Forced, api.Voluntary} {
			p := newPair(32, 0)
			indices := append(slices.Clone(noIndices), len(weights), len(weights)+1)
			p.push(t, class, indices...)
			if got := p.step(t, 2, 0, weights...); len(got) != len(indices) {
				t.Errorf("weights %v: Step = %v", weights, got)
			}
		}
	}
}

// P13.1: indices may be repeated; the weight is taken each time.
func TestStepRepeatedIndices(t *testing.T) {
	p := newPair(8, 0)
	p.push(t, api.Voluntary, 1, 1, 0, 1)
	p.push(t, api.Forced, 1, 0)
	for epoch := range 4 {
		p.step(t, epoch, 6, 5, 3)
	}
}

// P13.1: the least and the greatest epochs for which Step is specified.
func TestStepEpochs(t *testing.T) {
	for _, epoch := range []int{0, 1, 2, 1<<31 - 1, 1 << 31, 1 << 32, api.MaxEpoch - 2, api.MaxEpoch - 1} {
		p := newPair(2, 0)
		p.push(t, api.Voluntary, 0)
		p.push(t, api.Forced, 1)
		got := p.step(t, epoch, 3, 2, 1)
		want := []api.Assignment{{Index: 1, Class: api.Forced, Epoch: epoch + 1}, {Index: 0, Class: api.Voluntary, Epoch: epoch + 1}}
		if !slices.Equal(got, want) {
			t.Errorf("Step in epoch %d = %v; want %v", epoch, got, want)
		}
	}
}

// P1: Step does not panic in an epoch for which it is not specified.
func TestStepOtherEpochs(t *testing.T) {
	for _, epoch := range []int{math.MinInt, -2, -1, api.MaxEpoch, api.MaxEpoch + 1, math.MaxInt} {
		l, m := lanes.New(1), meter.New()
		l.Push(api.Forced, 0)
		assign.Step(epoch, l, m, 1, []uint64{1})
	}
}

// P13.1: without queues or a meter, Step has no effect.
func TestStepNil(t *testing.T) {
	for _, none := range []*lanes.Lanes{nil, lanes.New(0), lanes.New(4097)} {
		p := newPair(1, 5)
		before := p.meter.Totals()
		if got := assign.Step(1, none, p.meter, 10, []uint64{1}); len(got) != 0 {
			t.Errorf("Step without queues = %v", got)
		}
		if p.meter.Balance() != 5 || p.meter.Totals() != before {
			t.Errorf("Step without queues made the balance %d and the totals %+v", p.meter.Balance(), p.meter.Totals())
		}
		if got := assign.Step(1, none, nil, 10, []uint64{1}); len(got) != 0 {
			t.Errorf("Step without queues and a meter = %v", got)
		}
	}
	// Without a meter, not even a weight of 0 is taken.
	for _, weight := range []uint64{0, 1} {
		p := newPair(2, 0)
		p.push(t, api.Forced, 0)
		p.push(t, api.Voluntary, 0)
		if got := assign.Step(1, p.lanes, nil, 10, []uint64{weight}); len(got) != 0 {
			t.Errorf("Step without a meter = %v", got)
		}
		p.check(t)
	}
}

// P13.1: a boundary without a limit resets what was spent, and changes nothing else if an exit waits.
func TestStepWithoutLimit(t *testing.T) {
	p := newPair(3, 4)
	p.push(t, api.Voluntary, 0, 1)
	p.step(t, 0, 0, 3, 2)
	if p.meter.Spent() != 3 || p.meter.Balance() != 1 {
		t.Errorf("the first boundary spent %d and left %d", p.meter.Spent(), p.meter.Balance())
	}
	p.step(t, 1, 0, 3, 2)
	if p.meter.Spent() != 0 || p.meter.Balance() != 1 {
		t.Errorf("the second boundary spent %d and left %d", p.meter.Spent(), p.meter.Balance())
	}
}

// P13.1 and P13.4: all sequences of 6 exits and boundaries with small weights.
func TestStepAllShortSequences(t *testing.T) {
	const length, calls = 6, 7
	sequences := 1
	for range length {
		sequences *= calls
	}
	weights := []uint64{0, 1, 3}
	for s := range sequences {
		p := newPair(length, 0)
		for epoch := range length {
			if call := s % calls; call < 6 {
				p.push(t, call%2, call/2)
			} else {
				p.step(t, epoch, 2, weights...)
			}
			s /= calls
		}
		p.step(t, length, 2, weights...)
	}
}

// P13.1 and P13.4: long sequences with changing limits and weights, small ones and such that sums exceed a uint64.
func TestStepRandomSequences(t *testing.T) {
	random := rand.New(rand.NewSource(13))
	for round := range 400 {
		amount := func() uint64 { return uint64(random.Intn(9)) }
		if round%4 == 0 {
			amount = func() uint64 { return random.Uint64() >> random.Intn(3) }
		}
		p := newPair(4096, amount())
		weights := make([]uint64, random.Intn(8))
		for epoch := range 60 {
			for range random.Intn(4) {
				p.push(t, random.Intn(2), random.Intn(10)-1)
			}
			for i := range weights {
				weights[i] = amount()
			}
			p.step(t, epoch, amount(), weights...)
		}
	}
}

// P13.1: the largest queues, at one boundary and with one boundary for each exit.
func TestStepLargest(t *testing.T) {
	const size = 4096
	weights := slices.Repeat([]uint64{1}, size)
	for _, limit := range []int{2 * size, 1} {
		l, m := lanes.New(size), meter.New()
		for i := range size {
			l.Push(api.Voluntary, i)
			l.Push(api.Forced, size-1-i)
		}
		queue := l.Ahead(api.Voluntary)
		for epoch := range len(queue) / limit {
			var want []api.Assignment
			for i, index := range queue[epoch*limit : (epoch+1)*limit] {
				class := (epoch*limit + i) / size
				want = append(want, api.Assignment{Index: index, Class: class, Epoch: epoch + 1})
			}
			if got := assign.Step(epoch, l, m, uint64(limit), weights); !slices.Equal(got, want) {
				t.Fatalf("limit %d, epoch %d: Step returns %d assignments, which differ from the %d required ones", limit, epoch, len(got), len(want))
			}
		}
		if l.Len(api.Forced) != 0 || l.Len(api.Voluntary) != 0 || m.Balance() != 0 {
			t.Errorf("limit %d: %d and %d exits remain, and the balance %d", limit, l.Len(api.Forced), l.Len(api.Voluntary), m.Balance())
		}
	}
}

// Rule 4: elements beyond the length of the weights are not read.
func TestCapacityIsNotRead(t *testing.T) {
	weights := []uint64{5, 9, 9, 9}[:1]
	if sum, ok := assign.Weight(weights, 0, 1, 2, 3); sum != 5 || !ok {
		t.Errorf("Weight = %d, %v; want 5, true", sum, ok)
	}
	p := newPair(4, 0)
	p.push(t, api.Voluntary, 1, 2, 3)
	if got := p.step(t, 0, 0, weights...); len(got) != 3 {
		t.Errorf("Step = %v", got)
	}
}

// Rule 4: results share no memory with each other or with the arguments.
func TestResultsAreCopies(t *testing.T) {
	p := newPair(8, 0)
	p.push(t, api.Voluntary, 0, 1, 2, 3)
	first := p.step(t, 0, 2, 1, 1, 1, 1)
	kept := slices.Clone(first)
	second := p.step(t, 1, 2, 1, 1, 1, 1)
	clear(second[:cap(second)])
	p.push(t, api.Voluntary, 4, 5)
	p.step(t, 2, 2, 1, 1, 1, 1, 1, 1)
	if !slices.Equal(first, kept) {
		t.Errorf("later calls changed %v to %v", kept, first)
	}
	weights := []uint64{4, 25, 3}
	forecast, again := assign.Forecast(0, 10, weights...), assign.Forecast(0, 10, weights...)
	clear(forecast[:cap(forecast)])
	if want := []int{1, 3, 4}; !slices.Equal(again, want) || !slices.Equal(weights, []uint64{4, 25, 3}) {
		t.Errorf("a change of a result made another one %v and the weights %v", again, weights)
	}
}

// wantWeight is the specification of Weight.
func wantWeight(weights []uint64, indices []int) (uint64, bool) {
	sum := new(big.Int)
	for _, index := range indices {
		sum.Add(sum, integer(weightOf(weights, index)))
	}
	if sum.Cmp(integer(top)) > 0 {
		return 0, false
	}
	return sum.Uint64(), true
}

func expectWeight(t *testing.T, weights []uint64, indices ...int) {
	t.Helper()
	want, wantOK := wantWeight(weights, indices)
	keptWeights, keptIndices := slices.Clone(weights), slices.Clone(indices)
	if sum, ok := assign.Weight(weights, indices...); sum != want || ok != wantOK {
		t.Errorf("Weight(%v, %v) = %d, %v; want %d, %v", weights, indices, sum, ok, want, wantOK)
	}
	if !slices.Equal(weights, keptWeights) || !slices.Equal(indices, keptIndices) {
		t.Errorf("Weight(%v, %v) changed its arguments", keptWeights, keptIndices)
	}
}

// P13.2: sums, with repeated indices, without indices, and with indices that have no element.
func TestWeight(t *testing.T) {
	weights := []uint64{4, 25, 3}
	for _, x := range []struct {
		indices []int
		sum     uint64
	}{
		{nil, 0},
		{[]int{0}, 4},
		{[]int{2}, 3},
		{[]int{0, 1, 2}, 32},
		{[]int{2, 0}, 7},
		{[]int{1, 1, 1, 0}, 79},
		{[]int{3}, 0},
		{[]int{-1, 1, 3}, 25},
	} {
		if sum, ok := assign.Weight(weights, x.indices...); sum != x.sum || !ok {
			t.Errorf("Weight(%v) = %d, %v; want %d, true", x.indices, sum, ok, x.sum)
		}
	}
	for _, weights := range [][]uint64{nil, {}, {1}, {1, 2}, {1, 2, 4}} {
		for _, index := range append([]int{0, 1, 2, 3}, noIndices...) {
			expectWeight(t, weights, index)
			expectWeight(t, weights, 0, index, index, 1)
		}
	}
	expectWeight(t, []uint64{3, 5}, slices.Repeat([]int{1, 0}, 5000)...)
}

// P13.2: both sides of 2^64 - 1, and sums that would become small again.
func TestWeightOverflow(t *testing.T) {
	values := []uint64{0, 1, 2, 1<<63 - 1, 1 << 63, 1<<63 + 1, top - 1, top}
	indices := []int{0, 1, 2, 3}
	for _, a := range values {
		for _, b := range values {
			for _, c := range values {
				for _, first := range indices {
					for _, second := range indices {
						expectWeight(t, []uint64{a, b, c}, first, second)
						expectWeight(t, []uint64{a, b, c}, first, second, 2)
					}
				}
				expectWeight(t, []uint64{a, b, c}, 0, 0, 1, 1, 2)
			}
		}
	}
}

// wantForecast is the specification of Forecast: an exit is assigned when the grants cover all weights up to its own.
func wantForecast(balance, limit uint64, weights []uint64) []int {
	var want []int
	missing := new(big.Int).Neg(integer(balance))
	for _, weight := range weights {
		missing.Add(missing, integer(weight))
		want = append(want, boundaryFor(missing, limit))
	}
	return want
}

// boundaryFor returns the first boundary at which the grants add up to at least a sum, or -1.
func boundaryFor(sum *big.Int, limit uint64) int {
	if sum.Sign() <= 0 {
		return 1
	}
	if limit == 0 {
		return -1
	}
	quotient, rest := new(big.Int).DivMod(sum, integer(limit), new(big.Int))
	if rest.Sign() > 0 {
		quotient.Add(quotient, big.NewInt(1))
	}
	if quotient.Cmp(big.NewInt(farthest)) > 0 {
		return -1
	}
	return int(quotient.Int64())
}

func expectForecast(t *testing.T, balance, limit uint64, weights ...uint64) {
	t.Helper()
	kept := slices.Clone(weights)
	got, want := assign.Forecast(balance, limit, weights...), wantForecast(balance, limit, weights)
	if !slices.Equal(got, want) {
		t.Errorf("Forecast(%d, %d, %v) = %v; want %v", balance, limit, weights, got, want)
	}
	if !slices.Equal(weights, kept) {
		t.Errorf("Forecast(%d, %d, %v) changed the weights to %v", balance, limit, kept, weights)
	}
}

// P13.3: the example of the document, and the cases that it names.
func TestForecast(t *testing.T) {
	for _, x := range []struct {
		balance, limit uint64
		weights        []uint64
		want           []int
	}{
		{0, 10, []uint64{4, 25, 3}, []int{1, 3, 4}},
		{0, 10, nil, nil},
		{0, 0, nil, nil},
		{0, 10, []uint64{0}, []int{1}},
		{0, 0, []uint64{0, 0}, []int{1, 1}},
		// Without a limit, only the balance is taken, and those after a waiting exit wait too.
		{5, 0, []uint64{3, 2, 0, 1, 0}, []int{1, 1, 1, -1, -1}},
		{5, 0, []uint64{6, 1}, []int{-1, -1}},
		// The balance is available at the first boundary, together with the limit.
		{5, 10, []uint64{15, 10, 1}, []int{1, 2, 3}},
		{5, 10, []uint64{16, 10}, []int{2, 3}},
		{100, 10, []uint64{40, 40, 20, 10, 1}, []int{1, 1, 1, 1, 2}},
		{1, 1, []uint64{farthest + 1, 0, 1}, []int{farthest, farthest, -1}},
		{0, 1, []uint64{farthest, 1, 0}, []int{farthest, -1, -1}},
		{0, 1, []uint64{farthest + 1, 0}, []int{-1, -1}},
		{0, 1, []uint64{top, 1}, []int{-1, -1}},
		// The balance is not limited to 2^64 - 1.
		{top, top, []uint64{top, top, 1}, []int{1, 1, 2}},
		{top, 1, []uint64{top, 1, 1}, []int{1, 1, 2}},
		{0, top, []uint64{top, top, top}, []int{1, 2, 3}},
		{0, top - 1, []uint64{top, top, top}, []int{2, 3, 4}},
		{0, 1 << 63, []uint64{1<<63 + 1, 1<<63 - 1, 1}, []int{2, 2, 3}},
	} {
		if got := assign.Forecast(x.balance, x.limit, x.weights...); !slices.Equal(got, x.want) {
			t.Errorf("Forecast(%d, %d, %v) = %v; want %v", x.balance, x.limit, x.weights, got, x.want)
		}
		expectForecast(t, x.balance, x.limit, x.weights...)
	}
}

// lists returns all lists of at most length values.
func lists(values []uint64, length int) [][]uint64 {
	all := [][]uint64{nil}
	longest := all
	for range length {
		var next [][]uint64
		for _, list := range longest {
			for _, value := range values {
				next = append(next, append(slices.Clone(list), value))
			}
		}
		all, longest = append(all, next...), next
	}
	return all
}

// P13.3: all lists of up to 4 small weights.
func TestForecastSmall(t *testing.T) {
	for _, weights := range lists([]uint64{0, 1, 2, 3, 4, 7}, 4) {
		for balance := range uint64(6) {
			for limit := range uint64(5) {
				expectForecast(t, balance, limit, weights...)
			}
		}
	}
}

// P13.3: all lists of up to 3 weights at the limits of words and of the boundaries.
func TestForecastLarge(t *testing.T) {
	values := []uint64{0, 1, 2, farthest - 1, farthest, farthest + 1, 1<<33 - 3, 1<<63 - 1, 1 << 63, top - 1, top}
	for _, weights := range lists(values, 3) {
		for _, balance := range values {
			for _, limit := range values {
				expectForecast(t, balance, limit, weights...)
			}
		}
	}
}

// P13.3: both sides of the farthest boundary, with one large weight and with several.
func TestForecastFarthest(t *testing.T) {
	for _, limit := range []uint64{1, 2, 3, 1000, 1<<33 - 1} {
		for change := range uint64(5) {
			expectForecast(t, 0, limit, farthest*limit+change-2)
			expectForecast(t, change, limit, farthest*limit, 0, 2, 0)
			expectForecast(t, change, limit, limit, farthest*limit-limit, 2, 1)
			expectForecast(t, 1, limit, farthest*limit/2+change, farthest*limit/2-2, 0, 0)
			expectForecast(t, 0, limit, change, (farthest-1)*limit-change, limit-1, 1, 1)
		}
	}
	// The sum of the weights exceeds 2^64 by far.
	expectForecast(t, 0, 1<<40, slices.Repeat([]uint64{top}, 300)...)
	expectForecast(t, top, 1<<34, slices.Repeat([]uint64{1 << 62, top}, 9)...)
}

// P13.3: long lists of arbitrary weights.
func TestForecastRandom(t *testing.T) {
	random := rand.New(rand.NewSource(133))
	for range 3000 {
		amount := func() uint64 { return random.Uint64() >> random.Intn(64) }
		weights := make([]uint64, random.Intn(40))
		for i := range weights {
			weights[i] = amount()
		}
		expectForecast(t, amount(), amount(), weights...)
	}
}

// P13.3: the exits are assigned at the boundaries that Forecast returns.
func TestForecastAgreesWithStep(t *testing.T) {
	random := rand.New(rand.NewSource(31))
	for range 500 {
		p := newPair(16, uint64(random.Intn(20)))
		weights := make([]uint64, 1+random.Intn(8))
		for i := range weights {
			weights[i] = uint64(random.Intn(30))
			p.push(t, random.Intn(2), i)
		}
		limit := uint64(random.Intn(12))
		var inOrder []uint64
		queue := p.lanes.Ahead(api.Voluntary)
		for _, index := range queue {
			inOrder = append(inOrder, weights[index])
		}
		want := slices.Repeat([]int{-1}, len(queue))
		forecast := assign.Forecast(p.meter.Balance(), limit, inOrder...)
		assigned := 0
		for boundary := 1; boundary <= 300; boundary++ {
			for range p.step(t, boundary, limit, weights...) {
				want[assigned] = boundary
				assigned++
			}
		}
		if !slices.Equal(forecast, want) {
			t.Errorf("limit %d and weights %v: Forecast = %v; want %v", limit, inOrder, forecast, want)
		}
	}
}

// P2 and rule 6: other queues and meters are independent, and the functions may be called concurrently.
func TestConcurrent(t *testing.T) {
	weights := []uint64{4, 25, 3}
	var workers sync.WaitGroup
	for i := range 8 {
		workers.Go(func() {
			l, m := lanes.New(4), meter.New()
			for epoch := range 100 {
				l.Push(i%2, 0)
				got := assign.Step(epoch, l, m, 4, weights)
				want := []api.Assignment{{Index: 0, Class: i % 2, Epoch: epoch + 1}}
				sum, ok := assign.Weight(weights, 0, 1, 2)
				if !slices.Equal(got, want) || sum != 32 || !ok || !slices.Equal(assign.Forecast(0, 10, weights...), []int{1, 3, 4}) {
					t.Errorf("worker %d, epoch %d: Step = %v; want %v", i, epoch, got, want)
					return
				}
			}
		})
	}
	workers.Wait()
}
