package merge_test

import (
	"math"
	"math/big"
	"math/rand"
	"slices"
	"sync"
	"testing"

	"egress/api"
	"egress/config"
	"egress/merge"
	"egress/registry"
)

const top = math.MaxUint64

// states are all status values, and numbers that are none; among these are some whose least bits look like Active.
var states = []int{math.MinInt, math.MinInt + 2, -2, -1, 0, api.Pending, api.Active, api.Exiting, api.Unbonding, api.Withdrawable, api.Paid, api.Merged, 8, 9, 1<<8 + 2, 1<<32 + 2, math.MaxInt - 1, math.MaxInt}

// amounts are numbers at which the width of a word or the sign of an int matters, those around some limits of a configuration, and some small ones.
var amounts = []uint64{0, 1, 2, 3, 63, 64, 65, 127, 128, 129, 1<<31 - 1, 1 << 31, 1<<32 - 1, 1 << 32, 1<<32 + 1, 1<<60 - 1, 1 << 60, 1<<60 + 1, 1<<63 - 1, 1 << 63, 1<<63 + 1, top - 128, top - 1, top}

// limits are values of MaxBalance of a valid configuration.
var limits = []uint64{1, 2, 64, 128, 129, 1<<31 - 1, 1 << 31, 1 << 32, 1<<60 - 1, 1 << 60}

// noIndices are numbers that are no index of a list with less than 2^20 validators; the least bits of some of them look like one.
var noIndices = []int{math.MinInt, math.MinInt + 1, -1 << 32, -1<<32 + 1, -3, -2, -1, 1 << 20, 1 << 32, 1<<32 + 1, 1 << 62, math.MaxInt - 1, math.MaxInt}

func integer(a uint64) *big.Int { return new(big.Int).SetUint64(a) }

// limited is a valid configuration with these limits. Its other fields do not matter here, but a MaxBalance requires a deposit that is not greater.
func limited(t *testing.T, maxBalance uint64, merges int) api.Config {
	t.Helper()
	c := config.Default()
	c.MinBalance, c.MinDeposit, c.MaxDeposit = 1, 1, 1
	c.MaxBalance, c.SupplyCap = maxBalance, api.MaxAmount
	c.Merges = merges
	if !config.Valid(c) {
		t.Fatalf("field %d of a configuration is not valid", config.Check(c))
	}
	return c
}

// sample is an active validator whose fields have values that depend on a number, so that a field which is set or copied by mistake is seen.
func sample(balance uint64, n int) api.Validator {
	return api.Validator{Balance: balance, Status: api.Active, Request: 100*n + 1, Exit: 100*n + 2, Withdraw: 100*n + 3, Deadline: 100*n + 4}
}

// active are active validators with these balances.
func active(balances ...uint64) []api.Validator {
	var l []api.Validator
	for i, balance := range balances {
		l = append(l, sample(balance, i+1))
	}
	return l
}

// exceeds reports whether the sum of two balances, as an integer of any size, exceeds a limit.
func exceeds(a, b, limit uint64) bool {
	return new(big.Int).Add(integer(a), integer(b)).Cmp(integer(limit)) > 0
}

// check is the specification of Check.
func check(src, dst api.Validator, c api.Config) api.Errno {
	switch {
	case src.Status != 2:
		return api.ErrStatus
	case dst.Status != 2:
		return api.ErrStatus
	case src.Slashed:
		return api.ErrSlashed
	case dst.Slashed:
		return api.ErrSlashed
	case exceeds(src.Balance, dst.Balance, c.MaxBalance):
		return api.ErrAmount
	}
	return api.OK
}

// apply is the specification of Apply.
func apply(src, dst api.Validator, c api.Config) outcome {
	if code := check(src, dst, c); code != api.OK {
		return failed(code)
	}
	sum := new(big.Int).Add(integer(src.Balance), integer(dst.Balance))
	return outcome{
		src:  api.Validator{Balance: 0, Status: 7, Slashed: src.Slashed, Request: src.Request, Exit: src.Exit, Withdraw: src.Withdraw, Deadline: src.Deadline},
		dst:  api.Validator{Balance: sum.Uint64(), Status: dst.Status, Slashed: dst.Slashed, Request: dst.Request, Exit: dst.Exit, Withdraw: dst.Withdraw, Deadline: dst.Deadline},
		code: api.OK,
	}
}

// find returns the validator with an index.
func find(l []api.Validator, index int) (api.Validator, bool) {
	for i, v := range l {
		if i == index {
			return v, true
		}
	}
	return api.Validator{}, false
}

// request is the specification of Request.
func request(l []api.Validator, src, dst int, c api.Config) api.Errno {
	source, isSource := find(l, src)
	target, isTarget := find(l, dst)
	switch {
	case !isSource || !isTarget:
		return api.ErrIndex
	case src == dst:
		return api.ErrSame
	}
	return check(source, target, c)
}

// step is the specification of Step.
func step(l []api.Validator, queue [][2]int, c api.Config) ([]api.Validator, []bool) {
	now := slices.Clone(l)
	var performed []bool
	for n, p := range queue {
		if n == c.Merges {
			break
		}
		possible := request(now, p[0], p[1], c) == api.OK
		performed = append(performed, possible)
		if possible {
			after := apply(now[p[0]], now[p[1]], c)
			now[p[0]], now[p[1]] = after.src, after.dst
		}
	}
	return now, performed
}

// outcome is what Apply returns.
type outcome struct {
	src, dst api.Validator
	code     api.Errno
}

func applied(src, dst api.Validator, code api.Errno) outcome { return outcome{src, dst, code} }

// failed is the outcome of a call that returns an error.
func failed(code api.Errno) outcome { return outcome{code: code} }

// expectPair compares Check and Apply with the specification, and returns the error.
func expectPair(t *testing.T, src, dst api.Validator, c api.Config) api.Errno {
	t.Helper()
	code := merge.Check(src, dst, c)
	if want := check(src, dst, c); code != want {
		t.Errorf("Check(%+v, %+v) with MaxBalance %d = %d; want %d", src, dst, c.MaxBalance, code, want)
	}
	if got, want := applied(merge.Apply(src, dst, c)), apply(src, dst, c); got != want {
		t.Errorf("Apply(%+v, %+v) with MaxBalance %d = %+v; want %+v", src, dst, c.MaxBalance, got, want)
	}
	return code
}

// expectRequest compares Request with the specification, and returns its result.
func expectRequest(t *testing.T, l []api.Validator, src, dst int, c api.Config) api.Errno {
	t.Helper()
	kept := slices.Clone(l)
	code := merge.Request(l, src, dst, c)
	if want := request(kept, src, dst, c); code != want {
		t.Errorf("Request(%d, %d) among %+v = %d; want %d", src, dst, kept, code, want)
	}
	if !slices.Equal(l, kept) {
		t.Errorf("Request changed %+v to %+v", kept, l)
	}
	return code
}

// expectStep compares Step with the specification and with P16.5, and returns its results.
func expectStep(t *testing.T, l []api.Validator, queue [][2]int, c api.Config) ([]api.Validator, []bool) {
	t.Helper()
	kept, keptQueue := slices.Clone(l), slices.Clone(queue)
	after, performed := merge.Step(l, queue, c)
	if want, wantPerformed := step(kept, keptQueue, c); !slices.Equal(after, want) || !slices.Equal(performed, wantPerformed) {
		t.Fatalf("Step(%+v, %v) with MaxBalance %d and Merges %d = %+v, %v; want %+v, %v", kept, keptQueue, c.MaxBalance, c.Merges, after, performed, want, wantPerformed)
	}
	if !slices.Equal(l, kept) || !slices.Equal(queue, keptQueue) {
		t.Fatalf("Step changed its arguments from %+v, %v to %+v, %v", kept, keptQueue, l, queue)
	}
	if total(after, anyStatus).Cmp(total(l, anyStatus)) != 0 || total(after, live).Cmp(total(l, live)) != 0 {
		t.Fatalf("Step(%+v, %v) = %+v, which has another sum of balances or active stake", l, queue, after)
	}
	return after, performed
}

func anyStatus(int) bool { return true }

// live is the condition that chapter 5 has for a status whose balances are active stake.
func live(status int) bool { return status == 2 || status == 3 }

// total is the sum of the balances of some validators as an integer of any size.
func total(l []api.Validator, counts func(status int) bool) *big.Int {
	sum := new(big.Int)
	for _, v := range l {
		if counts(v.Status) {
			sum.Add(sum, integer(v.Balance))
		}
	}
	return sum
}

func balances(l []api.Validator) []uint64 {
	var all []uint64
	for _, v := range l {
		all = append(all, v.Balance)
	}
	return all
}

// pairs returns all pairs of two of these numbers, also of a number with itself.
func pairs(numbers ...int) [][2]int {
	var all [][2]int
	for _, src := range numbers {
		for _, dst := range numbers {
			all = append(all, [2]int{src, dst})
		}
	}
	return all
}

// queues returns all queues of at most length pairs.
func queues(pairs [][2]int, length int) [][][2]int {
	all := [][][2]int{nil}
	last := all
	for range length {
		var next [][][2]int
		for _, queue := range last {
			for _, p := range pairs {
				next = append(next, append(slices.Clone(queue), p))
			}
		}
		all, last = append(all, next...), next
	}
	return all
}

// P16.1 and P16.2: the examples of the document.
func TestExample(t *testing.T) {
	c := config.Default()
	src, dst := sample(50, 1), sample(60, 2)
	if got := merge.Check(src, dst, c); got != api.OK {
		t.Errorf("Check of 50 and 60 = %d", got)
	}
	after, sum, code := merge.Apply(src, dst, c)
	if after.Balance != 0 || sum.Balance != 110 || code != api.OK {
		t.Errorf("Apply of 50 and 60 = %+v, %+v, %d", after, sum, code)
	}
	src.Balance = 70
	if got := merge.Check(src, dst, c); got != api.ErrAmount {
		t.Errorf("Check of 70 and 60 = %d", got)
	}
	if got := applied(merge.Apply(src, dst, c)); got != failed(api.ErrAmount) {
		t.Errorf("Apply of 70 and 60 = %+v", got)
	}
}

// P16.1: source and target have to be Active, whatever else is wrong.
func TestStatus(t *testing.T) {
	c := config.Default()
	for _, from := range states {
		for _, to := range states {
			src, dst := sample(50, 1), sample(60, 2)
			src.Status, dst.Status = from, to
			want := api.ErrStatus
			if from == api.Active && to == api.Active {
				want = api.OK
			}
			if got := expectPair(t, src, dst, c); got != want {
				t.Errorf("Check with the statuses %d and %d = %d; want %d", from, to, got, want)
			}
			if want == api.OK {
				continue
			}
			for _, wrong := range [][2]bool{{true, false}, {false, true}, {true, true}} {
				for _, balance := range []uint64{0, 79, top} {
					src.Slashed, dst.Slashed, src.Balance = wrong[0], wrong[1], balance
					if got := expectPair(t, src, dst, c); got != api.ErrStatus {
						t.Errorf("Check with the statuses %d and %d, slashed %v and the balance %d = %d", from, to, wrong, balance, got)
					}
				}
			}
		}
	}
}

// P16.1: neither the source nor the target may be slashed, whether or not the sum is too large.
func TestSlashed(t *testing.T) {
	c := config.Default()
	for _, balance := range []uint64{0, 50, 68, 69, 128, 129, top - 59, top} {
		for _, wrong := range [][2]bool{{true, false}, {false, true}, {true, true}} {
			src, dst := sample(balance, 1), sample(60, 2)
			src.Slashed, dst.Slashed = wrong[0], wrong[1]
			if got := expectPair(t, src, dst, c); got != api.ErrSlashed {
				t.Errorf("Check with the balance %d and slashed %v = %d", balance, wrong, got)
			}
			if got := expectPair(t, dst, src, c); got != api.ErrSlashed {
				t.Errorf("Check of a target with the balance %d and slashed %v = %d", balance, wrong, got)
			}
		}
	}
}

// P16.1: both sides of MaxBalance, and sums that would wrap around.
func TestAmount(t *testing.T) {
	for _, x := range []struct {
		src, dst, limit uint64
		want            api.Errno
	}{
		{50, 60, 110, api.OK},
		{50, 60, 111, api.OK},
		{50, 60, 109, api.ErrAmount},
		{50, 60, 60, api.ErrAmount},
		{0, 0, 1, api.OK},
		{0, 1, 1, api.OK},
		{1, 0, 1, api.OK},
		{1, 1, 1, api.ErrAmount},
		{0, 2, 1, api.ErrAmount},
		{2, 0, 1, api.ErrAmount},
		{1 << 59, 1 << 59, 1 << 60, api.OK},
		{1 << 59, 1<<59 + 1, 1 << 60, api.ErrAmount},
		{1 << 60, 0, 1 << 60, api.OK},
		{0, 1 << 60, 1 << 60, api.OK},
		{1 << 60, 1, 1 << 60, api.ErrAmount},
		{1<<32 - 1, 1, 1 << 32, api.OK},
		{1 << 32, 1, 1 << 32, api.ErrAmount},
		{1 << 32, 0, 1, api.ErrAmount},
		{1 << 63, 1 << 62, 1 << 60, api.ErrAmount},
		// These sums would be 0, 1 and less than the limit.
		{top, 1, 128, api.ErrAmount},
		{1, top, 128, api.ErrAmount},
		{1 << 63, 1 << 63, 128, api.ErrAmount},
		{1 << 63, 1<<63 + 1, 128, api.ErrAmount},
		{top, 100, 128, api.ErrAmount},
		{100, top, 1 << 60, api.ErrAmount},
		// These would be the limit, and one more.
		{top, 129, 128, api.ErrAmount},
		{top, 130, 128, api.ErrAmount},
		{top, top, 1 << 60, api.ErrAmount},
		{top, 0, 1 << 60, api.ErrAmount},
		{0, top, 1 << 60, api.ErrAmount},
	} {
		c := limited(t, x.limit, 2)
		if got := expectPair(t, sample(x.src, 1), sample(x.dst, 2), c); got != x.want {
			t.Errorf("Check of %d and %d with MaxBalance %d = %d; want %d", x.src, x.dst, x.limit, got, x.want)
		}
	}
}

// P16.1 and P16.2: all combinations of amounts, and both sides of each limit.
func TestManyAmounts(t *testing.T) {
	for _, limit := range limits {
		c := limited(t, limit, 2)
		for _, first := range amounts {
			for _, second := range amounts {
				expectPair(t, sample(first, 1), sample(second, 2), c)
			}
			for _, change := range []uint64{top - 1, top, 0, 1, 2} {
				// The difference may wrap around; then the balance is a large one.
				expectPair(t, sample(first, 1), sample(limit-first+change, 2), c)
				expectPair(t, sample(limit-first+change, 1), sample(first, 2), c)
			}
		}
	}
}

// P16.1 and P16.2: other fields of the validators and of the configuration do not matter.
func TestOtherFields(t *testing.T) {
	ends := []int{math.MinInt, api.NoEpoch, 0, 7, api.MaxEpoch, api.MaxEpoch + 1, math.MaxInt}
	for i := range ends {
		src, dst := sample(50, 1), sample(60, 2)
		n := len(ends)
		src.Request, src.Exit, src.Withdraw, src.Deadline = ends[i], ends[(i+1)%n], ends[(i+2)%n], ends[(i+3)%n]
		dst.Request, dst.Exit, dst.Withdraw, dst.Deadline = ends[(i+4)%n], ends[(i+5)%n], ends[(i+6)%n], ends[i]
		for _, limit := range []uint64{109, 110, 111} {
			c := limited(t, limit, i)
			c.MinBalance, c.MinDeposit, c.MaxDeposit = 8, 16, 70
			want := api.OK
			if limit == 109 {
				want = api.ErrAmount
			}
			if got := expectPair(t, src, dst, c); got != want {
				t.Errorf("Check of %+v and %+v with MaxBalance %d = %d; want %d", src, dst, limit, got, want)
			}
		}
	}
}

// P16.2: which fields change, and which do not.
func TestApply(t *testing.T) {
	src := api.Validator{Balance: 50, Status: api.Active, Request: 11, Exit: 12, Withdraw: 13, Deadline: 14}
	dst := api.Validator{Balance: 60, Status: api.Active, Request: 21, Exit: 22, Withdraw: 23, Deadline: 24}
	want := outcome{
		src: api.Validator{Balance: 0, Status: api.Merged, Request: 11, Exit: 12, Withdraw: 13, Deadline: 14},
		dst: api.Validator{Balance: 110, Status: api.Active, Request: 21, Exit: 22, Withdraw: 23, Deadline: 24},
	}
	if got := applied(merge.Apply(src, dst, config.Default())); got != want {
		t.Errorf("Apply = %+v; want %+v", got, want)
	}
	// Apply knows no indices: two validators with equal fields are different ones.
	same := applied(merge.Apply(src, src, config.Default()))
	if same.src.Status != api.Merged || same.src.Balance != 0 || same.dst.Status != api.Active || same.dst.Balance != 100 || same.code != api.OK {
		t.Errorf("Apply of two equal validators = %+v", same)
	}
	// A balance of 0 is moved as well.
	src.Balance = 0
	if got := applied(merge.Apply(src, dst, config.Default())); got.src.Status != api.Merged || got.dst != dst || got.code != api.OK {
		t.Errorf("Apply of a source without a balance = %+v", got)
	}
}

// P16.2: a merged validator takes no part in another consolidation; the target does.
func TestApplyAgain(t *testing.T) {
	c := config.Default()
	first := applied(merge.Apply(sample(50, 1), sample(60, 2), c))
	for _, other := range []api.Validator{sample(3, 3), first.dst, first.src} {
		if got := applied(merge.Apply(first.src, other, c)); got != failed(api.ErrStatus) {
			t.Errorf("Apply of a merged source = %+v", got)
		}
		if got := applied(merge.Apply(other, first.src, c)); got != failed(api.ErrStatus) {
			t.Errorf("Apply to a merged target = %+v", got)
		}
	}
	if got := applied(merge.Apply(sample(18, 3), first.dst, c)); got.dst.Balance != 128 || got.code != api.OK {
		t.Errorf("a second Apply to a target = %+v", got)
	}
	if got := applied(merge.Apply(first.dst, sample(18, 3), c)); got.dst.Balance != 128 || got.code != api.OK {
		t.Errorf("Apply of a former target = %+v", got)
	}
}

// P16.3: indices of the list, and numbers that are none.
func TestIndices(t *testing.T) {
	c := config.Default()
	for length := range 5 {
		l := active(1, 2, 4, 8)[:length]
		numbers := append(slices.Clone(noIndices), 0, 1, 2, 3, 4, 5)
		for _, p := range pairs(numbers...) {
			want := api.OK
			switch {
			case p[0] < 0 || p[0] >= length || p[1] < 0 || p[1] >= length:
				want = api.ErrIndex
			case p[0] == p[1]:
				want = api.ErrSame
			}
			if got := expectRequest(t, l, p[0], p[1], c); got != want {
				t.Errorf("Request(%d, %d) among %d validators = %d; want %d", p[0], p[1], length, got, want)
			}
		}
	}
	for _, none := range [][]api.Validator{nil, {}} {
		if got := expectRequest(t, none, 0, 0, c); got != api.ErrIndex {
			t.Errorf("Request among no validators = %d", got)
		}
	}
}

// P16.3: the order of the errors.
func TestRequestErrors(t *testing.T) {
	c := config.Default()
	idle, slashed, both := sample(60, 1), sample(60, 2), sample(60, 3)
	idle.Status = api.Exiting
	slashed.Slashed = true
	both.Status, both.Slashed = api.Pending, true
	l := []api.Validator{sample(50, 4), idle, slashed, both, sample(79, 5), sample(78, 6), sample(top, 7)}
	for _, x := range []struct {
		src, dst int
		want     api.Errno
	}{
		{0, 7, api.ErrIndex},
		{7, 0, api.ErrIndex},
		{-1, 0, api.ErrIndex},
		{0, -1, api.ErrIndex},
		// An index precedes the other errors, also that of equal ones.
		{7, 7, api.ErrIndex},
		{-1, -1, api.ErrIndex},
		{7, 1, api.ErrIndex},
		{2, 7, api.ErrIndex},
		{6, -1, api.ErrIndex},
		{-1, 3, api.ErrIndex},
		// Equal indices precede the errors of the validators.
		{0, 0, api.ErrSame},
		{1, 1, api.ErrSame},
		{2, 2, api.ErrSame},
		{3, 3, api.ErrSame},
		{4, 4, api.ErrSame},
		{6, 6, api.ErrSame},
		{0, 1, api.ErrStatus},
		{1, 0, api.ErrStatus},
		{1, 2, api.ErrStatus},
		{2, 1, api.ErrStatus},
		{3, 0, api.ErrStatus},
		{0, 3, api.ErrStatus},
		{1, 6, api.ErrStatus},
		{6, 3, api.ErrStatus},
		{0, 2, api.ErrSlashed},
		{2, 0, api.ErrSlashed},
		{2, 6, api.ErrSlashed},
		{6, 2, api.ErrSlashed},
		{0, 4, api.ErrAmount},
		{4, 0, api.ErrAmount},
		{0, 6, api.ErrAmount},
		{6, 0, api.ErrAmount},
		{0, 5, api.OK},
		{5, 0, api.OK},
	} {
		if got := expectRequest(t, l, x.src, x.dst, c); got != x.want {
			t.Errorf("Request(%d, %d) = %d; want %d", x.src, x.dst, got, x.want)
		}
	}
}

// P16.3: validators with equal fields are different ones.
func TestEqualValidators(t *testing.T) {
	l := []api.Validator{sample(50, 1), sample(50, 1), sample(50, 1)}
	for _, p := range pairs(0, 1, 2) {
		want := api.OK
		if p[0] == p[1] {
			want = api.ErrSame
		}
		if got := expectRequest(t, l, p[0], p[1], config.Default()); got != want {
			t.Errorf("Request(%d, %d) among equal validators = %d; want %d", p[0], p[1], got, want)
		}
	}
}

// P16.4: queues of pairs, with the balances afterwards.
func TestStep(t *testing.T) {
	for _, x := range []struct {
		merges    int
		queue     [][2]int
		performed []bool
		balances  []uint64
	}{
		{2, nil, nil, []uint64{10, 20, 40, 80}},
		{2, [][2]int{}, nil, []uint64{10, 20, 40, 80}},
		{2, [][2]int{{0, 1}}, []bool{true}, []uint64{0, 30, 40, 80}},
		{2, [][2]int{{1, 0}}, []bool{true}, []uint64{30, 0, 40, 80}},
		{2, [][2]int{{0, 1}, {2, 3}}, []bool{true, true}, []uint64{0, 30, 0, 120}},
		// No more than Merges pairs, also if some of these are skipped.
		{0, [][2]int{{0, 1}, {2, 3}}, nil, []uint64{10, 20, 40, 80}},
		{1, [][2]int{{0, 1}, {2, 3}}, []bool{true}, []uint64{0, 30, 40, 80}},
		{2, [][2]int{{0, 1}, {1, 2}, {2, 3}}, []bool{true, true}, []uint64{0, 0, 70, 80}},
		{2, [][2]int{{0, 0}, {4, 0}, {2, 3}}, []bool{false, false}, []uint64{10, 20, 40, 80}},
		{3, [][2]int{{0, 0}, {4, 0}, {2, 3}}, []bool{false, false, true}, []uint64{10, 20, 0, 120}},
		{4096, [][2]int{{2, 3}, {0, 1}}, []bool{true, true}, []uint64{0, 30, 0, 120}},
		// The validators as they are then: a source is merged only once, and a target has the sum.
		{4, [][2]int{{0, 1}, {0, 2}}, []bool{true, false}, []uint64{0, 30, 40, 80}},
		{4, [][2]int{{0, 1}, {0, 1}}, []bool{true, false}, []uint64{0, 30, 40, 80}},
		{4, [][2]int{{0, 1}, {1, 0}}, []bool{true, false}, []uint64{0, 30, 40, 80}},
		{4, [][2]int{{0, 1}, {2, 0}, {2, 1}}, []bool{true, false, true}, []uint64{0, 70, 0, 80}},
		{4, [][2]int{{0, 1}, {1, 2}}, []bool{true, true}, []uint64{0, 0, 70, 80}},
		{4, [][2]int{{1, 2}, {0, 1}}, []bool{true, false}, []uint64{10, 0, 60, 80}},
		{4, [][2]int{{1, 2}, {0, 2}}, []bool{true, true}, []uint64{0, 0, 70, 80}},
		// The sum of 140 exceeds the limit, that of 120 does not.
		{4, [][2]int{{1, 2}, {2, 3}}, []bool{true, false}, []uint64{10, 0, 60, 80}},
		{4, [][2]int{{2, 3}, {1, 3}, {0, 3}}, []bool{true, false, false}, []uint64{10, 20, 0, 120}},
		{4, [][2]int{{0, 3}, {2, 3}, {1, 3}, {1, 2}}, []bool{true, false, true, false}, []uint64{0, 0, 40, 110}},
		// Skipped pairs do not end the step.
		{5, [][2]int{{-1, 0}, {1, 4}, {3, 3}, {0, 1}, {math.MaxInt, math.MinInt}}, []bool{false, false, false, true, false}, []uint64{0, 30, 40, 80}},
	} {
		c := config.Default()
		c.Merges = x.merges
		after, performed := expectStep(t, active(10, 20, 40, 80), x.queue, c)
		if !slices.Equal(performed, x.performed) || !slices.Equal(balances(after), x.balances) {
			t.Errorf("Step(%v) with Merges %d = %v, %v; want %v, %v", x.queue, x.merges, balances(after), performed, x.balances, x.performed)
		}
	}
}

// P16.4: all fields of the validators after a step.
func TestStepFields(t *testing.T) {
	l := active(10, 20, 40)
	c := config.Default()
	after, _ := expectStep(t, l, [][2]int{{2, 0}}, c)
	src, dst := sample(0, 3), sample(50, 1)
	src.Status = api.Merged
	if want := []api.Validator{dst, sample(20, 2), src}; !slices.Equal(after, want) {
		t.Errorf("Step = %+v; want %+v", after, want)
	}
}

// P16.4: validators that must not be consolidated are left as they are.
func TestStepSkips(t *testing.T) {
	c := limited(t, 128, 64)
	for _, state := range states {
		for _, slashed := range []bool{false, true} {
			for _, balance := range []uint64{0, 118, 119, top - 9, top} {
				l := active(10, balance, 20)
				l[1].Status, l[1].Slashed = state, slashed
				possible := state == api.Active && !slashed && balance <= 118
				for _, p := range [][2]int{{0, 1}, {1, 0}} {
					_, performed := expectStep(t, l, [][2]int{p}, c)
					if !slices.Equal(performed, []bool{possible}) {
						t.Errorf("Step(%v) with the status %d, slashed %v and the balance %d performed %v", p, state, slashed, balance, performed)
					}
				}
				expectStep(t, l, [][2]int{{0, 1}, {1, 0}, {2, 1}, {1, 2}, {0, 2}, {2, 0}}, c)
			}
		}
	}
}

// P16.4: lists without validators, and with one.
func TestStepWithoutPairs(t *testing.T) {
	queue := append(pairs(0, 1, -1), pairs(noIndices...)...)
	c := limited(t, 128, 4096)
	for _, l := range [][]api.Validator{nil, {}, active(50)} {
		after, performed := expectStep(t, l, queue, c)
		if len(after) != len(l) || len(performed) != len(queue) || slices.Contains(performed, true) {
			t.Errorf("Step among %d validators = %+v, %v", len(l), after, performed)
		}
		if after, performed = expectStep(t, l, nil, c); len(after) != len(l) || len(performed) != 0 {
			t.Errorf("Step without a queue = %+v, %v", after, performed)
		}
	}
}

// P16.4 and P16.5: all queues of up to 4 pairs among 3 validators, with invalid pairs and with each number of Merges.
func TestSmallQueues(t *testing.T) {
	all := queues(append(pairs(0, 1, 2), [2]int{0, 3}, [2]int{-1, 1}), 4)
	for n, queue := range all {
		c := limited(t, []uint64{6, 7, 5, 4, 128}[n%5], n%6)
		expectStep(t, active(1, 2, 4), queue, c)
		c.Merges = len(queue)
		expectStep(t, active(4, 1, 2), queue, c)
		expectStep(t, active(0, 4, 3), queue, c)
	}
}

// randomValidators are validators of which most, but not all, can be consolidated.
func randomValidators(random *rand.Rand, length int) []api.Validator {
	var l []api.Validator
	for i := range length {
		v := sample(uint64(random.Intn(60)), i)
		switch random.Intn(8) {
		case 0:
			v.Status = states[random.Intn(len(states))]
		case 1:
			v.Slashed = true
		case 2:
			v.Balance = amounts[random.Intn(len(amounts))]
		}
		l = append(l, v)
	}
	return l
}

// P16.4 and P16.5: random lists and queues.
func TestRandomQueues(t *testing.T) {
	random := rand.New(rand.NewSource(16))
	reached := map[bool]int{}
	for range 4000 {
		length := 1 + random.Intn(12)
		l := randomValidators(random, length)
		var queue [][2]int
		for range random.Intn(30) {
			queue = append(queue, [2]int{random.Intn(length+2) - 1, random.Intn(length+2) - 1})
		}
		c := limited(t, limits[random.Intn(len(limits))], random.Intn(40))
		_, performed := expectStep(t, l, queue, c)
		for _, was := range performed {
			reached[was]++
		}
	}
	if reached[true] < 1000 || reached[false] < 1000 {
		t.Errorf("pairs by whether they were performed: %v", reached)
	}
}

// P16.4: the whole queue in one step, or one step for each pair.
func TestOneByOne(t *testing.T) {
	random := rand.New(rand.NewSource(164))
	for range 500 {
		l := randomValidators(random, 8)
		var queue [][2]int
		for range 12 {
			queue = append(queue, [2]int{random.Intn(9), random.Intn(9)})
		}
		c := limited(t, 128, 12)
		want, wantPerformed := expectStep(t, l, queue, c)
		c.Merges = 1
		var got []bool
		for len(queue) > 0 {
			after, performed := expectStep(t, l, queue, c)
			l, queue, got = after, queue[1:], append(got, performed...)
		}
		if !slices.Equal(l, want) || !slices.Equal(got, wantPerformed) {
			t.Errorf("one by one: %+v, %v; want %+v, %v", l, got, want, wantPerformed)
		}
	}
}

// P16.5: the sums that a registry has of the validators.
func TestSums(t *testing.T) {
	l := active(10, 20, 40, 80, 30)
	l[4].Status = api.Exiting
	queue := [][2]int{{0, 1}, {1, 2}, {4, 2}, {2, 3}, {3, 2}, {2, 4}}
	after, performed := expectStep(t, l, queue, limited(t, 150, 6))
	if want := []bool{true, true, false, true, false, false}; !slices.Equal(performed, want) {
		t.Fatalf("Step = %v; want %v", performed, want)
	}
	for _, list := range [][]api.Validator{l, after} {
		r := registry.New(8)
		for _, v := range list {
			r.Add(v)
		}
		if r.Active() != 180 || r.Total() != 180 {
			t.Errorf("of %+v, the active stake is %d and the sum %d; want 180", list, r.Active(), r.Total())
		}
	}
}

// P16.5: balances of which even a list that cannot be summed in one word keeps the sum.
func TestLargeSums(t *testing.T) {
	l := active(top, top, 1<<60, 0, 1<<63, 1<<59, 1<<59)
	l[4].Status = api.Exiting
	_, performed := expectStep(t, l, append(pairs(0, 1, 2, 3, 4, 5, 6), pairs(6, 5, 4, 3, 2, 1, 0)...), limited(t, 1<<60, 4096))
	count := 0
	for _, was := range performed {
		if was {
			count++
		}
	}
	// The validator 2 moves to 3, and 5 to 6; no other sum is within the limit.
	if count != 2 {
		t.Errorf("%d consolidations were performed; want 2", count)
	}
}

// P16.4: the largest registry and queue of a valid configuration.
func TestLargest(t *testing.T) {
	const largest = 4096
	c := limited(t, largest, largest)
	c.Capacity, c.QueueSize = largest, largest
	l := make([]api.Validator, largest)
	var queue [][2]int
	for i := range l {
		l[i] = sample(1, i)
		queue = append(queue, [2]int{i, (i + 1) % largest})
	}
	after, performed := merge.Step(l, queue, c)
	if len(performed) != largest || slices.Index(performed, false) != largest-1 {
		t.Errorf("the first pair that is not performed is %d; want the last one", slices.Index(performed, false))
	}
	for i, v := range after {
		want := sample(0, i)
		want.Status = api.Merged
		if i == largest-1 {
			want = sample(largest, i)
		}
		if v != want {
			t.Fatalf("validator %d is %+v; want %+v", i, v, want)
		}
	}
	// There may be more pairs than Merges.
	after, performed = merge.Step(l, append(queue, queue...), c)
	if len(performed) != largest || after[largest-1].Balance != largest {
		t.Errorf("Step = %d pairs, and a balance of %d", len(performed), after[largest-1].Balance)
	}
}

// Rule 4: elements beyond the length of a list or a queue are neither read nor written.
func TestCapacityIsNotUsed(t *testing.T) {
	l, queue := active(10, 20, 40), [][2]int{{0, 2}, {0, 1}, {1, 0}}
	kept, keptQueue := slices.Clone(l), slices.Clone(queue)
	c := limited(t, 128, 8)
	if got := merge.Request(l[:2], 0, 2, c); got != api.ErrIndex {
		t.Errorf("Request of a validator beyond the length = %d", got)
	}
	after, performed := expectStep(t, l[:2], queue[:1], c)
	if len(after) != 2 || !slices.Equal(performed, []bool{false}) {
		t.Errorf("Step = %+v, %v", after, performed)
	}
	expectStep(t, l[:0], queue[:0], c)
	if !slices.Equal(l, kept) || !slices.Equal(queue, keptQueue) {
		t.Errorf("the elements beyond the length became %+v, %v", l, queue)
	}
}

// Rule 4: a result shares no memory with an argument or with another result.
func TestResultsAreCopies(t *testing.T) {
	c := limited(t, 128, 8)
	for _, queue := range [][][2]int{nil, {{0, 0}}, {{0, 1}}, {{0, 1}, {1, 2}}} {
		l := active(10, 20, 40)
		kept := slices.Clone(l)
		first, firstPerformed := expectStep(t, l, queue, c)
		want, wantPerformed := slices.Clone(first), slices.Clone(firstPerformed)
		second, secondPerformed := expectStep(t, l, queue, c)
		clear(second[:cap(second)])
		for i := range secondPerformed {
			secondPerformed[i] = !secondPerformed[i]
		}
		if !slices.Equal(first, want) || !slices.Equal(firstPerformed, wantPerformed) || !slices.Equal(l, kept) {
			t.Errorf("a change of a result made another one %+v, %v, and the argument %+v", first, firstPerformed, l)
		}
		clear(l)
		clear(queue)
		if !slices.Equal(first, want) || !slices.Equal(firstPerformed, wantPerformed) {
			t.Errorf("a change of the arguments made the result %+v, %v", first, firstPerformed)
		}
	}
}

// P1: nothing panics with a configuration that is not valid; the results are not specified.
func TestInvalidConfigurations(t *testing.T) {
	l := active(10, 20, 0, top, 1<<63)
	for _, merges := range []int{math.MinInt, -1, 0, 3, 1 << 62, math.MaxInt} {
		for _, limit := range []uint64{0, 30, 1 << 63, top - 1, top} {
			c := api.Config{MaxBalance: limit, Merges: merges}
			for _, p := range pairs(-1, 0, 1, 2, 3, 4, 5) {
				merge.Request(l, p[0], p[1], c)
				merge.Step(l, [][2]int{p, p}, c)
			}
			merge.Check(l[3], l[4], c)
			merge.Apply(l[3], l[4], c)
			merge.Step(nil, nil, c)
		}
	}
}

// Rule 6: the functions may be called concurrently, also with the same arguments.
func TestConcurrent(t *testing.T) {
	l, queue, c := active(10, 20, 40, 80), [][2]int{{0, 1}, {3, 3}, {1, 2}, {2, 3}}, limited(t, 128, 8)
	want, wantPerformed := step(l, queue, c)
	var workers sync.WaitGroup
	for range 8 {
		workers.Go(func() {
			for range 200 {
				code := merge.Request(l, 2, 3, c)
				after, performed := merge.Step(l, queue, c)
				if code != api.OK || !slices.Equal(after, want) || !slices.Equal(performed, wantPerformed) {
					t.Errorf("Request = %d and Step = %+v, %v", code, after, performed)
					return
				}
			}
		})
	}
	workers.Wait()
}
