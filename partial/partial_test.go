package partial_test

import (
	"math"
	"math/big"
	"math/rand"
	"slices"
	"sync"
	"testing"

	"egress/api"
	"egress/config"
	"egress/partial"
)

const top = math.MaxUint64

// states are all status values, and numbers that are none; among these are some whose least bits look like Active.
var states = []int{math.MinInt, math.MinInt + 2, -2, -1, 0, api.Pending, api.Active, api.Exiting, api.Unbonding, api.Withdrawable, api.Paid, api.Merged, 8, 9, 1<<8 + 2, 1<<32 + 2, math.MaxInt - 1, math.MaxInt}

// amounts are numbers at which the width of a word or the sign of an int matters, those around some values of MinBalance, and some small ones.
var amounts = []uint64{0, 1, 2, 3, 7, 8, 9, 15, 16, 17, 1<<31 - 1, 1 << 31, 1<<32 - 1, 1 << 32, 1<<32 + 1, 1<<60 - 1, 1 << 60, 1<<60 + 1, 1<<63 - 1, 1 << 63, 1<<63 + 1, top - 8, top - 1, top}

// minima are values of MinBalance of a valid configuration.
var minima = []uint64{1, 2, 8, 16, 1<<31 - 1, 1 << 31, 1 << 32, 1<<60 - 1, 1 << 60}

// noIndices are numbers that are no index of a list with less than 2^20 validators; the least bits of some of them look like one.
var noIndices = []int{math.MinInt, math.MinInt + 1, -1 << 32, -1<<32 + 1, -3, -2, -1, 1 << 20, 1 << 32, 1<<32 + 1, 1 << 62, math.MaxInt - 1, math.MaxInt}

func integer(a uint64) *big.Int { return new(big.Int).SetUint64(a) }

// limited is a valid configuration with these limits. Its other fields do not matter here, but they have to be large enough for them.
func limited(t *testing.T, minBalance uint64, partials int) api.Config {
	t.Helper()
	c := config.Default()
	c.MinBalance, c.MinDeposit, c.MaxDeposit = minBalance, minBalance, minBalance
	c.MaxBalance, c.SupplyCap = api.MaxAmount, api.MaxAmount
	c.Visits, c.Payments, c.Partials = partials+1, partials+1, partials
	if !config.Valid(c) {
		t.Fatalf("field %d of a configuration is not valid", config.Check(c))
	}
	return c
}

// sample is an active validator whose fields have values that depend on a number, so that a field which is set or copied by mistake is seen.
func sample(balance uint64, n int) api.Validator {
	return api.Validator{Balance: balance, Status: api.Active, Request: 100*n + 1, Exit: 100*n + 2, Withdraw: 100*n + 3, Deadline: 100*n + 4}
}

// active are active validators with these balances.
func active(balances ...uint64) []api.Validator {
	var l []api.Validator
	for i, balance := range balances {
		l = append(l, sample(balance, i+1))
	}
	return l
}

// find returns the validator with an index.
func find(l []api.Validator, index int) (api.Validator, bool) {
	for i, v := range l {
		if i == index {
			return v, true
		}
	}
	return api.Validator{}, false
}

// check is the specification of Check.
func check(l []api.Validator, index int, amount uint64) api.Errno {
	v, ok := find(l, index)
	if !ok {
		return api.ErrIndex
	}
	if amount == 0 {
		return api.ErrAmount
	}
	if v.Status != 2 {
		return api.ErrStatus
	}
	return api.OK
}

// available is the specification of Available, as an integer of any size.
func available(v api.Validator, c api.Config) *big.Int {
	difference := new(big.Int).Sub(integer(v.Balance), integer(c.MinBalance))
	if v.Status == 2 && !v.Slashed && difference.Sign() > 0 {
		return difference
	}
	return new(big.Int)
}

// apply is the specification of Apply.
func apply(v api.Validator, amount uint64, c api.Config) outcome {
	paid := available(v, c)
	if paid.Cmp(integer(amount)) > 0 {
		paid = integer(amount)
	}
	rest := new(big.Int).Sub(integer(v.Balance), paid)
	after := api.Validator{Balance: rest.Uint64(), Status: v.Status, Slashed: v.Slashed, Request: v.Request, Exit: v.Exit, Withdraw: v.Withdraw, Deadline: v.Deadline}
	return outcome{after, paid.Uint64()}
}

// step is the specification of Step.
func step(l []api.Validator, queue []partial.Request, c api.Config) ([]api.Validator, []api.Payment, int) {
	now := slices.Clone(l)
	var payments []api.Payment
	processed := 0
	for processed < c.Partials && processed < len(queue) {
		index, amount := queue[processed].Index, queue[processed].Amount
		processed++
		v, ok := find(now, index)
		if !ok {
			continue
		}
		after := apply(v, amount, c)
		now[index] = after.v
		if after.paid != 0 {
			payments = append(payments, api.Payment{Index: index, Amount: after.paid, Full: false})
		}
	}
	return now, payments, processed
}

// outcome is what Apply returns.
type outcome struct {
	v    api.Validator
	paid uint64
}

func applied(v api.Validator, paid uint64) outcome { return outcome{v, paid} }

// expectCheck compares Check with the specification, and returns its result.
func expectCheck(t *testing.T, l []api.Validator, index int, amount uint64) api.Errno {
	t.Helper()
	kept := slices.Clone(l)
	code := partial.Check(l, partial.Request{Index: index, Amount: amount})
	if want := check(kept, index, amount); code != want {
		t.Errorf("Check of %d for %d among %+v = %d; want %d", amount, index, kept, code, want)
	}
	if !slices.Equal(l, kept) {
		t.Errorf("Check changed %+v to %+v", kept, l)
	}
	return code
}

// expectApply compares Available and Apply with the specification and with P17.4, and returns the results of Apply.
func expectApply(t *testing.T, v api.Validator, amount uint64, c api.Config) (api.Validator, uint64) {
	t.Helper()
	if got, want := partial.Available(v, c), available(v, c); want.Cmp(integer(got)) != 0 {
		t.Errorf("Available(%+v) with MinBalance %d = %d; want %d", v, c.MinBalance, got, want)
	}
	after, paid := partial.Apply(v, amount, c)
	if got, want := applied(after, paid), apply(v, amount, c); got != want {
		t.Errorf("Apply(%+v, %d) with MinBalance %d = %+v; want %+v", v, amount, c.MinBalance, got, want)
	}
	if v.Balance >= c.MinBalance && after.Balance < c.MinBalance {
		t.Errorf("Apply(%+v, %d) with MinBalance %d leaves the balance %d", v, amount, c.MinBalance, after.Balance)
	}
	return after, paid
}

// expectStep compares Step with the specification and with P17.4, and returns its results.
func expectStep(t *testing.T, l []api.Validator, queue []partial.Request, c api.Config) ([]api.Validator, []api.Payment, int) {
	t.Helper()
	kept, keptQueue := slices.Clone(l), slices.Clone(queue)
	after, payments, processed := partial.Step(l, queue, c)
	want, wantPayments, wantProcessed := step(kept, keptQueue, c)
	if !slices.Equal(after, want) || !slices.Equal(payments, wantPayments) || processed != wantProcessed {
		t.Fatalf("Step(%+v, %v) with MinBalance %d and Partials %d = %+v, %+v, %d; want %+v, %+v, %d", kept, keptQueue, c.MinBalance, c.Partials, after, payments, processed, want, wantPayments, wantProcessed)
	}
	if !slices.Equal(l, kept) || !slices.Equal(queue, keptQueue) {
		t.Fatalf("Step changed its arguments from %+v, %v to %+v, %v", kept, keptQueue, l, queue)
	}
	expectBalances(t, l, after, payments, c)
	return after, payments, processed
}

// expectBalances checks P17.4: what follows for the balances.
func expectBalances(t *testing.T, before, after []api.Validator, payments []api.Payment, c api.Config) {
	t.Helper()
	for i, v := range before {
		rest := integer(v.Balance)
		for _, p := range payments {
			if p.Index == i {
				rest.Sub(rest, integer(p.Amount))
			}
		}
		if rest.Cmp(integer(after[i].Balance)) != 0 {
			t.Fatalf("the payments %+v make %d of the balance %d; want %d", payments, after[i].Balance, v.Balance, rest)
		}
		if v.Balance >= c.MinBalance && after[i].Balance < c.MinBalance {
			t.Fatalf("the balance %d became %d, which is less than %d", v.Balance, after[i].Balance, c.MinBalance)
		}
	}
}

func balances(l []api.Validator) []uint64 {
	var all []uint64
	for _, v := range l {
		all = append(all, v.Balance)
	}
	return all
}

// part is a payment of less than the whole balance.
func part(index int, amount uint64) api.Payment {
	return api.Payment{Index: index, Amount: amount}
}

// queues returns all queues of at most length requests.
func queues(requests []partial.Request, length int) [][]partial.Request {
	all := [][]partial.Request{nil}
	last := all
	for range length {
		var next [][]partial.Request
		for _, queue := range last {
			for _, r := range requests {
				next = append(next, append(slices.Clone(queue), r))
			}
		}
		all, last = append(all, next...), next
	}
	return all
}

// P17.2 and P17.3: the example of the document.
func TestExample(t *testing.T) {
	c := config.Default()
	v := sample(20, 1)
	if got := partial.Available(v, c); got != 12 {
		t.Errorf("Available of 20 = %d; want 12", got)
	}
	after, paid := partial.Apply(v, 15, c)
	if after != sample(8, 1) || paid != 12 {
		t.Errorf("Apply of 15 to 20 = %+v, %d; want the balance 8 and 12", after, paid)
	}
	l, payments, processed := partial.Step([]api.Validator{v}, []partial.Request{{0, 15}}, c)
	if !slices.Equal(l, []api.Validator{sample(8, 1)}) || !slices.Equal(payments, []api.Payment{part(0, 12)}) || processed != 1 {
		t.Errorf("Step = %+v, %+v, %d", l, payments, processed)
	}
}

// P17.1: the errors, in their order.
func TestCheck(t *testing.T) {
	l := active(20, 5, 20, 20, 0, top)
	l[2].Status = api.Exiting
	l[3].Slashed = true
	for _, x := range []struct {
		index  int
		amount uint64
		want   api.Errno
	}{
		{0, 1, api.OK},
		{0, 15, api.OK},
		{5, top, api.OK},
		// An amount may exceed the available amount and the balance, and a slashed validator is no error.
		{0, 21, api.OK},
		{0, top, api.OK},
		{0, 1 << 32, api.OK},
		{0, 1 << 63, api.OK},
		{1, 1, api.OK},
		{3, 1, api.OK},
		{4, 1, api.OK},
		{-1, 1, api.ErrIndex},
		{6, 1, api.ErrIndex},
		{7, 1, api.ErrIndex},
		// An index precedes an amount, and an amount precedes a status.
		{-1, 0, api.ErrIndex},
		{6, 0, api.ErrIndex},
		{0, 0, api.ErrAmount},
		{1, 0, api.ErrAmount},
		{2, 0, api.ErrAmount},
		{3, 0, api.ErrAmount},
		{5, 0, api.ErrAmount},
		{2, 1, api.ErrStatus},
		{2, top, api.ErrStatus},
	} {
		if got := expectCheck(t, l, x.index, x.amount); got != x.want {
			t.Errorf("Check of %d for %d = %d; want %d", x.amount, x.index, got, x.want)
		}
	}
}

// P17.1: numbers that are no index, with and without an amount.
func TestCheckIndex(t *testing.T) {
	for length := range 5 {
		l := active(20, 30, 40, 50)[:length]
		for _, index := range append([]int{-2, -1, 0, 1, 2, 3, 4, 5}, noIndices...) {
			for _, amount := range []uint64{0, 1, top} {
				got := expectCheck(t, l, index, amount)
				if (got == api.ErrIndex) != (index < 0 || index >= length) {
					t.Errorf("Check for %d among %d validators = %d", index, length, got)
				}
			}
		}
	}
	if got := expectCheck(t, nil, 0, 1); got != api.ErrIndex {
		t.Errorf("Check without validators = %d", got)
	}
}

// P17.1: the validator has to be Active; nothing else about it matters.
func TestCheckStatus(t *testing.T) {
	for _, state := range states {
		for _, slashed := range []bool{false, true} {
			for _, balance := range []uint64{0, 8, 9, top} {
				l := active(20, balance, 20)
				l[1].Status, l[1].Slashed = state, slashed
				want := api.ErrStatus
				if state == api.Active {
					want = api.OK
				}
				for _, amount := range []uint64{1, 12, 1 << 32, top} {
					if got := expectCheck(t, l, 1, amount); got != want {
						t.Errorf("Check with the status %d = %d; want %d", state, got, want)
					}
				}
				// An amount of 0 precedes the status.
				if got := expectCheck(t, l, 1, 0); got != api.ErrAmount {
					t.Errorf("Check of 0 with the status %d = %d", state, got)
				}
				// The validators beside it do not matter.
				if expectCheck(t, l, 0, 1) != api.OK || expectCheck(t, l, 2, 1) != api.OK {
					t.Errorf("Check beside a validator with the status %d is an error", state)
				}
			}
		}
	}
}

// P17.2: both sides of MinBalance.
func TestAvailable(t *testing.T) {
	for _, x := range []struct{ balance, minimum, want uint64 }{
		{20, 8, 12},
		{16, 8, 8},
		{9, 8, 1},
		{8, 8, 0},
		{7, 8, 0},
		{1, 8, 0},
		{0, 8, 0},
		{0, 1, 0},
		{1, 1, 0},
		{2, 1, 1},
		{top, 1, top - 1},
		{top, 1 << 60, top - 1<<60},
		{1 << 60, 1 << 60, 0},
		{1<<60 - 1, 1 << 60, 0},
		{1<<60 + 1, 1 << 60, 1},
		{1<<32 + 8, 1 << 32, 8},
		{1 << 32, 1, 1<<32 - 1},
		{1, 1 << 32, 0},
		{1 << 63, 1 << 31, 1<<63 - 1<<31},
	} {
		c := limited(t, x.minimum, 2)
		v := sample(x.balance, 1)
		if got := partial.Available(v, c); got != x.want {
			t.Errorf("Available of %d with MinBalance %d = %d; want %d", x.balance, x.minimum, got, x.want)
		}
		// A request for all of it leaves MinBalance, or what was there.
		want := outcome{v, x.want}
		if x.want > 0 {
			want.v.Balance = x.minimum
		}
		for _, amount := range []uint64{x.balance, x.balance | 1<<63, top} {
			if got := applied(expectApply(t, v, amount, c)); got != want {
				t.Errorf("Apply of %d to %d with MinBalance %d = %+v; want %+v", amount, x.balance, x.minimum, got, want)
			}
		}
	}
}

// P17.2: only an active validator that is not slashed has an available amount.
func TestNotAvailable(t *testing.T) {
	c := config.Default()
	for _, state := range states {
		for _, slashed := range []bool{false, true} {
			for _, balance := range []uint64{0, 8, 9, 20, 1 << 60, top} {
				v := sample(balance, 1)
				v.Status, v.Slashed = state, slashed
				possible := state == api.Active && !slashed && balance > 8
				if got := partial.Available(v, c); (got > 0) != possible {
					t.Errorf("Available of %+v = %d", v, got)
				}
				for _, amount := range []uint64{0, 1, 12, 20, top} {
					after, paid := expectApply(t, v, amount, c)
					if (paid > 0) != (possible && amount > 0) || paid == 0 && after != v {
						t.Errorf("Apply of %d to %+v = %+v, %d", amount, v, after, paid)
					}
				}
			}
		}
	}
}

// P17.2: both sides of the available amount.
func TestApply(t *testing.T) {
	c := config.Default()
	for _, x := range []struct{ balance, amount, rest, paid uint64 }{
		{20, 0, 20, 0},
		{20, 1, 19, 1},
		{20, 11, 9, 11},
		{20, 12, 8, 12},
		{20, 13, 8, 12},
		{20, 20, 8, 12},
		{20, top, 8, 12},
		{9, 1, 8, 1},
		{9, 2, 8, 1},
		{8, 1, 8, 0},
		{8, 8, 8, 0},
		{7, 1, 7, 0},
		{7, top, 7, 0},
		{0, 1, 0, 0},
		{0, 0, 0, 0},
		{top, top, 8, top - 8},
		{top, top - 8, 8, top - 8},
		{top, top - 9, 9, top - 9},
		{top, 1 << 63, 1<<63 - 1, 1 << 63},
		{1<<32 + 8, 1 << 32, 8, 1 << 32},
		{1<<32 + 8, 1<<32 - 1, 9, 1<<32 - 1},
		{16, 1<<32 + 1, 8, 8},
		{16, 1 << 63, 8, 8},
	} {
		want := outcome{sample(x.rest, 1), x.paid}
		if got := applied(expectApply(t, sample(x.balance, 1), x.amount, c)); got != want {
			t.Errorf("Apply of %d to %d = %+v; want %+v", x.amount, x.balance, got, want)
		}
	}
}

// P17.2: no field but the balance changes, whatever the fields are.
func TestFieldsAreKept(t *testing.T) {
	c := config.Default()
	for _, epoch := range []int{math.MinInt, api.NoEpoch, 0, 7, api.MaxEpoch, math.MaxInt} {
		for field := range 4 {
			v := sample(20, 1)
			*[]*int{&v.Request, &v.Exit, &v.Withdraw, &v.Deadline}[field] = epoch
			want := v
			want.Balance = 15
			if got, paid := expectApply(t, v, 5, c); got != want || paid != 5 {
				t.Errorf("Apply of 5 to %+v = %+v, %d", v, got, paid)
			}
		}
	}
}

// P17.2 and P17.4: all combinations of amounts at the limits of words.
func TestAmounts(t *testing.T) {
	for _, minimum := range minima {
		c := limited(t, minimum, 1)
		for _, balance := range append([]uint64{minimum - 1, minimum + 1}, amounts...) {
			for _, amount := range append([]uint64{balance - minimum, balance - minimum - 1, balance - minimum + 1}, amounts...) {
				expectApply(t, sample(balance, 1), amount, c)
			}
		}
	}
}

// P17.2: the fields of the configuration that are no MinBalance do not matter.
func TestOtherFieldsOfConfig(t *testing.T) {
	small := config.Default()
	large := limited(t, 8, 4095)
	large.Capacity, large.QueueSize, large.Merges = 4096, 4096, 4096
	large.MinDeposit, large.MaxDeposit, large.SupplyCap = 1<<59, 1<<60, 1<<60
	large.PenaltyNum, large.PenaltyDen, large.ForcedCap = 0, 1<<32, 1<<60
	if !config.Valid(large) {
		t.Fatalf("field %d of a configuration is not valid", config.Check(large))
	}
	for _, balance := range amounts {
		for _, amount := range amounts {
			v := sample(balance, 1)
			got, want := applied(expectApply(t, v, amount, large)), applied(expectApply(t, v, amount, small))
			if got != want {
				t.Errorf("Apply of %d to %d = %+v; with another configuration, %+v", amount, balance, got, want)
			}
		}
	}
}

// P17.3: queues of requests, with the balances afterwards.
func TestStep(t *testing.T) {
	for _, x := range []struct {
		partials  int
		queue     []partial.Request
		payments  []api.Payment
		processed int
		balances  []uint64
	}{
		{2, nil, nil, 0, []uint64{20, 30, 8, 5}},
		{2, []partial.Request{}, nil, 0, []uint64{20, 30, 8, 5}},
		{2, []partial.Request{{0, 5}}, []api.Payment{part(0, 5)}, 1, []uint64{15, 30, 8, 5}},
		{2, []partial.Request{{1, 5}}, []api.Payment{part(1, 5)}, 1, []uint64{20, 25, 8, 5}},
		{2, []partial.Request{{1, 5}, {0, 3}}, []api.Payment{part(1, 5), part(0, 3)}, 2, []uint64{17, 25, 8, 5}},
		// No more than Partials requests, also if some of these are not paid.
		{0, []partial.Request{{0, 5}}, nil, 0, []uint64{20, 30, 8, 5}},
		{1, []partial.Request{{0, 5}, {1, 5}}, []api.Payment{part(0, 5)}, 1, []uint64{15, 30, 8, 5}},
		{2, []partial.Request{{0, 5}, {1, 5}, {0, 1}}, []api.Payment{part(0, 5), part(1, 5)}, 2, []uint64{15, 25, 8, 5}},
		{2, []partial.Request{{2, 5}, {4, 5}, {0, 5}}, nil, 2, []uint64{20, 30, 8, 5}},
		{3, []partial.Request{{2, 5}, {4, 5}, {0, 5}}, []api.Payment{part(0, 5)}, 3, []uint64{15, 30, 8, 5}},
		{4095, []partial.Request{{0, 5}, {1, 5}}, []api.Payment{part(0, 5), part(1, 5)}, 2, []uint64{15, 25, 8, 5}},
		// The validators as they are then: a second request is paid from the rest.
		{4, []partial.Request{{0, 5}, {0, 5}}, []api.Payment{part(0, 5), part(0, 5)}, 2, []uint64{10, 30, 8, 5}},
		{4, []partial.Request{{0, 5}, {0, 5}, {0, 5}}, []api.Payment{part(0, 5), part(0, 5), part(0, 2)}, 3, []uint64{8, 30, 8, 5}},
		{4, []partial.Request{{0, 5}, {0, 5}, {0, 5}, {0, 5}}, []api.Payment{part(0, 5), part(0, 5), part(0, 2)}, 4, []uint64{8, 30, 8, 5}},
		{4, []partial.Request{{0, 15}, {1, 1}, {0, 1}, {1, 1}}, []api.Payment{part(0, 12), part(1, 1), part(1, 1)}, 4, []uint64{8, 28, 8, 5}},
		// A request that is not paid does not end the step.
		{5, []partial.Request{{-1, 5}, {4, 5}, {0, 0}, {3, 5}, {1, 5}}, []api.Payment{part(1, 5)}, 5, []uint64{20, 25, 8, 5}},
		{4, []partial.Request{{math.MinInt, top}, {1, top}, {math.MaxInt, top}, {0, top}}, []api.Payment{part(1, 22), part(0, 12)}, 4, []uint64{8, 8, 8, 5}},
		{4, []partial.Request{{1, 0}, {0, 1}, {2, 1}, {2, 0}}, []api.Payment{part(0, 1)}, 4, []uint64{19, 30, 8, 5}},
	} {
		c := limited(t, 8, x.partials)
		after, payments, processed := expectStep(t, active(20, 30, 8, 5), x.queue, c)
		if !slices.Equal(balances(after), x.balances) || !slices.Equal(payments, x.payments) || processed != x.processed {
			t.Errorf("Step(%v) with Partials %d = %v, %+v, %d; want %v, %+v, %d", x.queue, x.partials, balances(after), payments, processed, x.balances, x.payments, x.processed)
		}
	}
}

// P17.3: all fields of the validators after a step.
func TestStepFields(t *testing.T) {
	after, _, _ := expectStep(t, active(20, 30, 40), []partial.Request{{2, 10}, {0, 1}}, config.Default())
	if want := []api.Validator{sample(19, 1), sample(30, 2), sample(30, 3)}; !slices.Equal(after, want) {
		t.Errorf("Step = %+v; want %+v", after, want)
	}
}

// P17.3: validators that are not to be paid are left as they are, and make no payment.
func TestStepWithoutPayment(t *testing.T) {
	c := limited(t, 8, 6)
	for _, state := range states {
		for _, slashed := range []bool{false, true} {
			for _, balance := range []uint64{0, 8, 9, top} {
				l := active(20, balance, 20)
				l[1].Status, l[1].Slashed = state, slashed
				_, payments, processed := expectStep(t, l, []partial.Request{{1, 1}}, c)
				possible := state == api.Active && !slashed && balance > 8
				if (len(payments) == 1) != possible || processed != 1 {
					t.Errorf("Step with the status %d, slashed %v and the balance %d = %+v, %d", state, slashed, balance, payments, processed)
				}
				expectStep(t, l, []partial.Request{{0, 3}, {1, 3}, {2, 3}, {1, top}, {1, 1}, {0, top}}, c)
			}
		}
	}
}

// P17.3: lists without validators, and with one.
func TestStepWithoutValidators(t *testing.T) {
	queue := []partial.Request{{1, 1}, {-1, 1}}
	for _, index := range noIndices {
		queue = append(queue, partial.Request{Index: index, Amount: 1}, partial.Request{Index: index, Amount: top})
	}
	c := limited(t, 8, 100)
	for _, l := range [][]api.Validator{nil, {}, active(50)} {
		after, payments, processed := expectStep(t, l, queue, c)
		if len(after) != len(l) || len(payments) != 0 || processed != len(queue) {
			t.Errorf("Step among %d validators = %+v, %+v, %d", len(l), after, payments, processed)
		}
		after, payments, processed = expectStep(t, l, nil, c)
		if len(after) != len(l) || len(payments) != 0 || processed != 0 {
			t.Errorf("Step without a queue = %+v, %+v, %d", after, payments, processed)
		}
	}
	_, payments, processed := expectStep(t, nil, []partial.Request{{0, 1}}, c)
	if len(payments) != 0 || processed != 1 {
		t.Errorf("Step without validators = %+v, %d", payments, processed)
	}
}

// P17.3 and P17.4: all queues of up to 4 requests among 2 validators, with invalid requests and with each number of Partials.
func TestSmallQueues(t *testing.T) {
	requests := []partial.Request{{0, 0}, {0, 1}, {0, 3}, {0, top}, {1, 1}, {1, 2}, {2, 1}, {-1, 1}}
	slashed := active(6, 6)
	slashed[1].Slashed = true
	for n, queue := range queues(requests, 4) {
		c := limited(t, []uint64{1, 2, 3, 4, 8}[n%5], n%6)
		expectStep(t, active(5, 7), queue, c)
		c = limited(t, 2, len(queue))
		expectStep(t, active(6, 4), queue, c)
		expectStep(t, slashed, queue, c)
	}
}

// randomValidators are validators of which most, but not all, can be paid.
func randomValidators(random *rand.Rand, length int) []api.Validator {
	var l []api.Validator
	for i := range length {
		v := sample(uint64(random.Intn(60)), i)
		switch random.Intn(8) {
		case 0:
			v.Status = states[random.Intn(len(states))]
		case 1:
			v.Slashed = true
		case 2:
			v.Balance = amounts[random.Intn(len(amounts))]
		}
		l = append(l, v)
	}
	return l
}

// randomQueue has requests for validators of a list of this length, and some for none.
func randomQueue(random *rand.Rand, length, requests int) []partial.Request {
	var queue []partial.Request
	for range requests {
		amount := uint64(random.Intn(20))
		if random.Intn(8) == 0 {
			amount = amounts[random.Intn(len(amounts))]
		}
		queue = append(queue, partial.Request{Index: random.Intn(length+2) - 1, Amount: amount})
	}
	return queue
}

// P17.3 and P17.4: random lists and queues.
func TestRandomQueues(t *testing.T) {
	random := rand.New(rand.NewSource(17))
	paid, unpaid := 0, 0
	for range 4000 {
		length := 1 + random.Intn(12)
		l, queue := randomValidators(random, length), randomQueue(random, length, random.Intn(30))
		c := limited(t, minima[random.Intn(len(minima))], random.Intn(40))
		_, payments, processed := expectStep(t, l, queue, c)
		paid, unpaid = paid+len(payments), unpaid+processed-len(payments)
	}
	if paid < 1000 || unpaid < 1000 {
		t.Errorf("%d requests were paid, %d were not", paid, unpaid)
	}
}

// P17.3: the whole queue in one step, or one step for each request.
func TestOneByOne(t *testing.T) {
	random := rand.New(rand.NewSource(173))
	for range 500 {
		l, queue := randomValidators(random, 6), randomQueue(random, 6, 20)
		want, wantPayments, _ := expectStep(t, l, queue, limited(t, 8, 20))
		var got []api.Payment
		for len(queue) > 0 {
			after, payments, processed := expectStep(t, l, queue, limited(t, 8, 1))
			if processed != 1 {
				t.Fatalf("%d requests were processed; want 1", processed)
			}
			l, queue, got = after, queue[1:], append(got, payments...)
		}
		if !slices.Equal(l, want) || !slices.Equal(got, wantPayments) {
			t.Errorf("one by one: %+v, %+v; want %+v, %+v", l, got, want, wantPayments)
		}
	}
}

// P17.4: balances of which even a list that cannot be summed in one word decreases by the payments only.
func TestLargeSums(t *testing.T) {
	for _, minimum := range minima {
		l := active(top, top, 1<<63, 1<<60, minimum)
		queue := []partial.Request{{0, 1 << 63}, {0, top}, {1, top}, {2, 1 << 62}, {2, 1 << 62}, {3, 1 << 60}, {4, 1}, {0, 1}}
		after, _, processed := expectStep(t, l, queue, limited(t, minimum, 8))
		want := []uint64{minimum, minimum, minimum, minimum, minimum}
		if !slices.Equal(balances(after), want) || processed != 8 {
			t.Errorf("the balances with MinBalance %d are %v; want %v", minimum, balances(after), want)
		}
	}
}

// P17.3: the largest registry, queue and number of Partials of a valid configuration.
func TestLargest(t *testing.T) {
	const largest = 4096
	c := limited(t, 8, largest-1)
	c.Capacity, c.QueueSize = largest, largest
	l := make([]api.Validator, largest)
	var queue []partial.Request
	for i := range l {
		l[i] = sample(20, i)
		queue = append(queue, partial.Request{Index: largest - 1 - i, Amount: 2})
	}
	after, payments, processed := partial.Step(l, queue, c)
	if len(payments) != largest-1 || processed != largest-1 {
		t.Fatalf("%d payments for %d requests; want %d", len(payments), processed, largest-1)
	}
	for i, p := range payments {
		if p != part(largest-1-i, 2) {
			t.Fatalf("payment %d is %+v", i, p)
		}
	}
	for i, v := range after {
		want := sample(18, i)
		if i == 0 {
			want = sample(20, i)
		}
		if v != want {
			t.Fatalf("validator %d is %+v; want %+v", i, v, want)
		}
	}
}

// Rule 4: elements beyond the length of a list or a queue are neither read nor written.
func TestCapacityIsNotUsed(t *testing.T) {
	l, queue := active(20, 30, 40), []partial.Request{{2, 5}, {0, 5}, {1, 5}}
	kept, keptQueue := slices.Clone(l), slices.Clone(queue)
	c := limited(t, 8, 8)
	if got := partial.Check(l[:2], queue[0]); got != api.ErrIndex {
		t.Errorf("Check of a validator beyond the length = %d", got)
	}
	after, payments, processed := expectStep(t, l[:2], queue[:1], c)
	if len(after) != 2 || len(payments) != 0 || processed != 1 {
		t.Errorf("Step = %+v, %+v, %d", after, payments, processed)
	}
	expectStep(t, l[:0], queue[:0], c)
	expectStep(t, l[:1], queue[:2], c)
	if !slices.Equal(l, kept) || !slices.Equal(queue, keptQueue) {
		t.Errorf("the elements beyond the length became %+v, %v", l, queue)
	}
}

// Rule 4: a result shares no memory with an argument or with another result.
func TestResultsAreCopies(t *testing.T) {
	c := limited(t, 8, 8)
	for _, queue := range [][]partial.Request{nil, {{0, 0}}, {{3, 1}}, {{0, 1}}, {{0, 1}, {1, 2}, {0, top}}} {
		l := active(20, 30, 40)
		kept := slices.Clone(l)
		first, firstPayments, _ := expectStep(t, l, queue, c)
		want, wantPayments := slices.Clone(first), slices.Clone(firstPayments)
		second, secondPayments, _ := expectStep(t, l, queue, c)
		clear(second[:cap(second)])
		clear(secondPayments[:cap(secondPayments)])
		if !slices.Equal(first, want) || !slices.Equal(firstPayments, wantPayments) || !slices.Equal(l, kept) {
			t.Errorf("a change of a result made another one %+v, %+v, and the argument %+v", first, firstPayments, l)
		}
		clear(l)
		clear(queue)
		if !slices.Equal(first, want) || !slices.Equal(firstPayments, wantPayments) {
			t.Errorf("a change of the arguments made the result %+v, %+v", first, firstPayments)
		}
	}
}

// P1: nothing panics with a configuration that is not valid; the results are not specified.
func TestInvalidConfigurations(t *testing.T) {
	l := active(20, 30, 0, top, 1<<63)
	for _, partials := range []int{math.MinInt, -1, 0, 3, 1 << 62, math.MaxInt} {
		for _, minimum := range []uint64{0, 30, 1 << 63, top - 1, top} {
			c := api.Config{MinBalance: minimum, Partials: partials}
			for index := -1; index <= len(l); index++ {
				partial.Step(l, []partial.Request{{index, 5}, {index, top}}, c)
			}
			for _, v := range l {
				partial.Available(v, c)
				partial.Apply(v, top, c)
			}
			partial.Step(nil, nil, c)
		}
	}
}

// Rule 6: the functions may be called concurrently, also with the same arguments.
func TestConcurrent(t *testing.T) {
	l, queue, c := active(20, 30, 40, 80), []partial.Request{{0, 5}, {3, 80}, {4, 1}, {0, 15}}, limited(t, 8, 8)
	want, wantPayments, wantProcessed := step(l, queue, c)
	var workers sync.WaitGroup
	for range 8 {
		workers.Go(func() {
			for range 200 {
				code := partial.Check(l, queue[3])
				after, payments, processed := partial.Step(l, queue, c)
				if code != api.OK || !slices.Equal(after, want) || !slices.Equal(payments, wantPayments) || processed != wantProcessed {
					t.Errorf("Check = %d and Step = %+v, %+v, %d", code, after, payments, processed)
					return
				}
			}
		})
	}
	workers.Wait()
}
