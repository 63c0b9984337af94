package limit_test

import (
	"math/big"
	"math/rand"
	"slices"
	"sync"
	"testing"

	"egress/api"
	"egress/limit"
)

const top = 1<<64 - 1

// samples are amounts at which the width of a word, the sign of an int or a limit of the chapter matters, with their neighbours, and some ordinary ones.
var samples = []uint64{
	0, 1, 2, 3, 4, 5, 7, 10, 31, 32, 33, 64, 70, 100, 1000, 4095, 4096, 4097,
	1<<31 - 1, 1 << 31, 1<<32 - 1, 1 << 32, 1<<32 + 1, 1<<40 - 1, 1 << 40, 1<<40 + 1, 1 << 60,
	1<<63 - 1, 1 << 63, 1<<63 + 1, top - 2, top - 1, top,
}

func integer(a uint64) *big.Int { return new(big.Int).SetUint64(a) }

// epochs is the specification of Epochs, with integers of any size.
func epochs(weight, churn uint64) (int, bool) {
	if churn == 0 {
		return 0, false
	}
	q, rest := new(big.Int).QuoRem(integer(weight), integer(churn), new(big.Int))
	if rest.Sign() > 0 {
		q.Add(q, big.NewInt(1))
	}
	if q.Cmp(big.NewInt(api.MaxEpoch)) > 0 {
		return 0, false
	}
	return int(q.Int64()), true
}

// split is the specification of Split: it tries all numbers of weights.
func split(most uint64, weights []uint64) (int, uint64) {
	best, rest := 0, most
	sum := new(big.Int)
	for i, w := range weights {
		sum.Add(sum, integer(w))
		if difference := new(big.Int).Sub(integer(most), sum); difference.Sign() >= 0 {
			best, rest = i+1, difference.Uint64()
		}
	}
	return best, rest
}

func checkSplit(t *testing.T, most uint64, weights []uint64) {
	t.Helper()
	before := slices.Clone(weights)
	want, wantRest := split(most, weights)
	if n, rest := limit.Split(most, weights...); n != want || rest != wantRest {
		t.Errorf("Split(%d, %v) = %d, %d; want %d, %d", most, before, n, rest, want, wantRest)
	}
	if !slices.Equal(weights, before) {
		t.Errorf("Split changed %v to %v", before, weights)
	}
}

// P10.1: the result is the minimum, or the greatest c such that c times the quotient is at most the active stake.
func TestChurn(t *testing.T) {
	for _, active := range samples {
		for _, minChurn := range samples {
			for _, quotient := range samples {
				want := minChurn
				if quotient > 0 {
					part := new(big.Int).Quo(integer(active), integer(quotient))
					if part.Cmp(integer(minChurn)) > 0 {
						want = part.Uint64()
					}
				}
				if got := limit.Churn(active, minChurn, quotient); got != want {
					t.Errorf("Churn(%d, %d, %d) = %d; want %d", active, minChurn, quotient, got, want)
				}
			}
		}
	}
}

// P10.1: the examples of the document, rounding, both sides of the minimum, and the quotient 0.
func TestChurnCases(t *testing.T) {
	for _, x := range []struct{ active, minChurn, quotient, want uint64 }{
		{1000, 32, 4, 250}, {100, 32, 4, 32},
		{127, 32, 4, 32}, {128, 32, 4, 32}, {131, 32, 4, 32}, {132, 32, 4, 33}, {135, 32, 4, 33},
		{7, 0, 2, 3}, {1, 0, 2, 0}, {0, 0, 1, 0}, {0, 32, 4, 32}, {5, 5, 1, 5}, {6, 5, 1, 6},
		{1000, 32, 0, 32}, {1000, 0, 0, 0}, {top, 1, 0, 1}, {0, 0, 0, 0}, {0, top, 0, top},
		{top, 0, 1, top}, {top, top - 1, 1, top}, {top - 1, top, 1, top}, {top, 0, top, 1}, {top - 1, 0, top, 0},
		{top, 1, 2, 1<<63 - 1}, {1 << 63, 1, 1, 1 << 63},
	} {
		if got := limit.Churn(x.active, x.minChurn, x.quotient); got != x.want {
			t.Errorf("Churn(%d, %d, %d) = %d; want %d", x.active, x.minChurn, x.quotient, got, x.want)
		}
	}
}

// P10.2
func TestEpochs(t *testing.T) {
	for _, weight := range samples {
		for _, churn := range samples {
			want, wantOK := epochs(weight, churn)
			if got, ok := limit.Epochs(weight, churn); got != want || ok != wantOK {
				t.Errorf("Epochs(%d, %d) = %d, %v; want %d, %v", weight, churn, got, ok, want, wantOK)
			}
		}
	}
}

// P10.2: rounding, the churn 0, and both sides of the greatest epoch.
func TestEpochsCases(t *testing.T) {
	for _, x := range []struct {
		weight, churn uint64
		want          int
		ok            bool
	}{
		{70, 32, 3, true}, {64, 32, 2, true}, {65, 32, 3, true}, {1, 32, 1, true}, {32, 32, 1, true}, {33, 32, 2, true},
		{0, 32, 0, true}, {0, top, 0, true}, {7, 1, 7, true}, {1, top, 1, true}, {top, top, 1, true}, {top, top - 1, 2, true},
		{0, 0, 0, false}, {1, 0, 0, false}, {top, 0, 0, false},
		{api.MaxEpoch - 1, 1, api.MaxEpoch - 1, true}, {api.MaxEpoch, 1, api.MaxEpoch, true}, {api.MaxEpoch + 1, 1, 0, false},
		{3 * api.MaxEpoch, 3, api.MaxEpoch, true}, {3*api.MaxEpoch - 2, 3, api.MaxEpoch, true}, {3*api.MaxEpoch - 3, 3, api.MaxEpoch - 1, true},
		{3*api.MaxEpoch + 1, 3, 0, false},
		// A conversion to an int before the comparison would make these quotients negative.
		{1 << 63, 1, 0, false}, {top, 1, 0, false}, {top - 1, 1, 0, false}, {top, 2, 0, false},
		{top, 1 << 24, api.MaxEpoch, true}, {top, 1<<24 - 1, 0, false},
	} {
		if got, ok := limit.Epochs(x.weight, x.churn); got != x.want || ok != x.ok {
			t.Errorf("Epochs(%d, %d) = %d, %v; want %d, %v", x.weight, x.churn, got, ok, x.want, x.ok)
		}
	}
}

// P10.3: as many weights as epochs, all of them the churn except the last one, with the weight as their sum.
func TestSpread(t *testing.T) {
	check := func(weight, churn uint64) {
		n, ok := epochs(weight, churn)
		got, gotOK := limit.Spread(weight, churn)
		if !ok || n > 4096 {
			if len(got) != 0 || gotOK {
				t.Errorf("Spread(%d, %d) = %d weights, %v; want none, false", weight, churn, len(got), gotOK)
			}
			return
		}
		if len(got) != n || !gotOK {
			t.Errorf("Spread(%d, %d) = %d weights, %v; want %d, true", weight, churn, len(got), gotOK, n)
			return
		}
		rest := weight
		for i, w := range got {
			want := churn
			if i == n-1 {
				want = rest
			}
			if w != want || w == 0 || w > churn {
				t.Errorf("Spread(%d, %d): the weight %d is %d; want %d", weight, churn, i, w, want)
			}
			rest -= w
		}
		if rest != 0 {
			t.Errorf("Spread(%d, %d) leaves %d", weight, churn, rest)
		}
	}
	for _, weight := range samples {
		for _, churn := range samples {
			check(weight, churn)
		}
	}
	for weight := range uint64(60) {
		for churn := range uint64(62) {
			check(weight, churn)
		}
	}
}

// P10.3: the example of the document, a weight without a rest, and no weight.
func TestSpreadCases(t *testing.T) {
	for _, x := range []struct {
		weight, churn uint64
		want          []uint64
	}{
		{70, 32, []uint64{32, 32, 6}},
		{64, 32, []uint64{32, 32}},
		{65, 32, []uint64{32, 32, 1}},
		{32, 32, []uint64{32}},
		{31, 32, []uint64{31}},
		{3, 1, []uint64{1, 1, 1}},
		{0, 32, nil},
		{0, 1, nil},
		{0, top, nil},
		{top, top, []uint64{top}},
		{top, top - 1, []uint64{top - 1, 1}},
		{top, 1 << 63, []uint64{1 << 63, 1<<63 - 1}},
		{1, top, []uint64{1}},
	} {
		if got, ok := limit.Spread(x.weight, x.churn); !slices.Equal(got, x.want) || !ok {
			t.Errorf("Spread(%d, %d) = %v, %v; want %v, true", x.weight, x.churn, got, ok, x.want)
		}
	}
}

// P10.3: the churn 0, and both sides of the greatest number of epochs.
func TestSpreadLimits(t *testing.T) {
	for _, x := range []struct {
		weight, churn uint64
		length        int
		last          uint64
	}{
		{4095, 1, 4095, 1}, {4096, 1, 4096, 1}, {4096 * 7, 7, 4096, 7}, {4095*7 + 1, 7, 4096, 1}, {4095*7 + 6, 7, 4096, 6},
		{1 << 63, 1 << 51, 4096, 1 << 51}, {top, 1 << 52, 4096, 1<<52 - 1},
	} {
		l, ok := limit.Spread(x.weight, x.churn)
		if len(l) != x.length || !ok {
			t.Errorf("Spread(%d, %d) = %d weights, %v; want %d, true", x.weight, x.churn, len(l), ok, x.length)
			continue
		}
		if l[0] != x.churn || l[x.length-2] != x.churn || l[x.length-1] != x.last {
			t.Errorf("Spread(%d, %d) = %d to %d, %d; want %d and the last one %d",
				x.weight, x.churn, l[0], l[x.length-2], l[x.length-1], x.churn, x.last)
		}
	}
	for _, x := range [][2]uint64{
		{0, 0}, {1, 0}, {top, 0},
		{4097, 1}, {4096*7 + 1, 7}, {top, 1<<52 - 1}, {1<<63 + 1, 1 << 51},
		{api.MaxEpoch, 1}, {api.MaxEpoch + 1, 1}, {1 << 63, 1}, {top, 1},
	} {
		if l, ok := limit.Spread(x[0], x[1]); len(l) != 0 || ok {
			t.Errorf("Spread(%d, %d) = %d weights, %v; want none, false", x[0], x[1], len(l), ok)
		}
	}
}

// P10.4: every short list over some weights, with limits at and between their sums.
func TestSplit(t *testing.T) {
	values := []uint64{0, 1, 2, 7, 1 << 32, 1<<63 - 1, 1 << 63, top - 1, top}
	limits := append([]uint64{3, 8, 9, 10, 14}, values...)
	lists := [][]uint64{nil}
	for first := 0; len(lists[first]) < 4; first++ {
		for _, v := range values {
			lists = append(lists, append(slices.Clone(lists[first]), v))
		}
	}
	for _, weights := range lists {
		for _, most := range limits {
			checkSplit(t, most, weights)
		}
	}
}

// P10.4: no weight, weights of 0, a weight that does not fit before one that would, and sums that wrap around if a carry is lost.
func TestSplitCases(t *testing.T) {
	for _, x := range []struct {
		most    uint64
		weights []uint64
		n       int
		rest    uint64
	}{
		{70, []uint64{32, 32, 32}, 2, 6},
		{10, []uint64{4, 6, 1}, 2, 0},
		{10, []uint64{4, 5}, 2, 1},
		{10, []uint64{11, 1}, 0, 10},
		{10, []uint64{4, 7, 1}, 1, 6},
		{10, nil, 0, 10},
		{0, nil, 0, 0},
		{top, nil, 0, top},
		{0, []uint64{1}, 0, 0},
		{0, []uint64{0, 0, 0}, 3, 0},
		{0, []uint64{0, 0, 1, 0}, 2, 0},
		{5, []uint64{5, 0, 0}, 3, 0},
		{5, []uint64{5, 0, 1, 0}, 2, 0},
		{5, []uint64{0, 6, 0}, 1, 5},
		{top, []uint64{top}, 1, 0},
		{top, []uint64{top, 0}, 2, 0},
		{top, []uint64{top, 1}, 1, 0},
		{top, []uint64{top - 1, 1, 1}, 2, 0},
		{top, []uint64{1, top}, 1, top - 1},
		{top, []uint64{1 << 63, 1 << 63, 1}, 1, 1<<63 - 1},
		{10, []uint64{3, top, 5}, 1, 7},
		{10, []uint64{top, 1, 2}, 0, 10},
		{10, []uint64{1 << 63, 1 << 63, 3}, 0, 10},
	} {
		if n, rest := limit.Split(x.most, x.weights...); n != x.n || rest != x.rest {
			t.Errorf("Split(%d, %v) = %d, %d; want %d, %d", x.most, x.weights, n, rest, x.n, x.rest)
		}
	}
}

// P10.4: lists of any length, with limits around the sum of some of the first weights.
func TestSplitRandom(t *testing.T) {
	random := rand.New(rand.NewSource(10))
	for range 3000 {
		weights := make([]uint64, random.Intn(40))
		width := random.Intn(64)
		for i := range weights {
			weights[i] = random.Uint64() >> width
		}
		var sum uint64
		for _, w := range weights[:random.Intn(len(weights)+1)] {
			sum += w
		}
		for _, most := range []uint64{sum - 1, sum, sum + 1, random.Uint64() >> random.Intn(64)} {
			checkSplit(t, most, weights)
		}
	}
}

// P10.4: Split reads all of a long list.
func TestSplitMany(t *testing.T) {
	weights := make([]uint64, 1<<20)
	for i := range weights {
		weights[i] = 3
	}
	for _, x := range []struct {
		most uint64
		n    int
		rest uint64
	}{
		{3<<20 + 5, 1 << 20, 5}, {3 << 20, 1 << 20, 0}, {3<<20 - 1, 1<<20 - 1, 2}, {2, 0, 2}, {top, 1 << 20, top - 3<<20},
	} {
		if n, rest := limit.Split(x.most, weights...); n != x.n || rest != x.rest {
			t.Errorf("Split(%d) of %d weights = %d, %d; want %d, %d", x.most, len(weights), n, rest, x.n, x.rest)
		}
	}
}

// P10.3 and P10.4: the weights of a Spread fit into the weight, and into nothing less.
func TestSplitOfSpread(t *testing.T) {
	for weight := uint64(1); weight < 200; weight++ {
		for churn := uint64(1); churn < 40; churn++ {
			l, _ := limit.Spread(weight, churn)
			if n, rest := limit.Split(weight, l...); n != len(l) || rest != 0 {
				t.Errorf("Split(%d, %v) = %d, %d; want all of them", weight, l, n, rest)
			}
			last := l[len(l)-1]
			if n, rest := limit.Split(weight-1, l...); n != len(l)-1 || rest != last-1 {
				t.Errorf("Split(%d, %v) = %d, %d; want all but the last one", weight-1, l, n, rest)
			}
		}
	}
}

// Rule 4: Split does not read beyond the length of its argument.
func TestSplitStopsAtLength(t *testing.T) {
	all := []uint64{1, 2, 3, 4}
	if n, rest := limit.Split(10, all[:2]...); n != 2 || rest != 7 {
		t.Errorf("Split = %d, %d; want 2, 7", n, rest)
	}
	if n, rest := limit.Split(10, all[:0]...); n != 0 || rest != 10 {
		t.Errorf("Split = %d, %d; want 0, 10", n, rest)
	}
	if !slices.Equal(all, []uint64{1, 2, 3, 4}) {
		t.Errorf("the argument has become %v", all)
	}
}

// Rule 4: no result of Spread shares memory with another one.
func TestSpreadsAreSeparate(t *testing.T) {
	first, _ := limit.Spread(70, 32)
	second, _ := limit.Spread(70, 32)
	for i := range first[:cap(first)] {
		first[:cap(first)][i] = 99
	}
	third, _ := limit.Spread(70, 32)
	for _, l := range [][]uint64{second, third} {
		if !slices.Equal(l, []uint64{32, 32, 6}) {
			t.Errorf("a change of one result changed another one to %v", l)
		}
	}
}

// Rule 6: the functions of the package may be called concurrently.
func TestConcurrent(t *testing.T) {
	var workers sync.WaitGroup
	for i := range uint64(8) {
		workers.Go(func() {
			for range 200 {
				l, ok := limit.Spread(10+i, 10)
				n, rest := limit.Split(10, l...)
				epochs, _ := limit.Epochs(10*i, 10)
				if !ok || rest != 0 || n != 1 || epochs != int(i) || limit.Churn(10*i, 1, 10) != max(i, 1) {
					t.Errorf("worker %d: %v, %v, %d, %d, %d", i, l, ok, n, rest, epochs)
					return
				}
			}
		})
	}
	workers.Wait()
}
