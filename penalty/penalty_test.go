package penalty_test

import (
	"math"
	"math/big"
	"math/rand"
	"sync"
	"testing"

	"egress/api"
	"egress/config"
	"egress/penalty"
	"egress/status"
)

const top = math.MaxUint64

// Numbers of epochs: the longest ones of a valid configuration.
const (
	longestUnbonding = 1<<20 - 1
	longestDelay     = 1 << 20
)

// amounts are numbers at which the width of a word or the sign of an int matters, and some small ones.
var amounts = []uint64{0, 1, 2, 3, 7, 50, 1<<31 - 1, 1 << 31, 1<<32 - 1, 1 << 32, 1<<32 + 1, 1 << 60, 1<<63 - 1, 1 << 63, 1<<63 + 1, top - 1, top}

// epochs are numbers around the least and the greatest epoch, and around those from which a delay leads beyond it.
var epochs = []int{
	math.MinInt, math.MinInt + 1, -1 << 40, -1 << 32, -longestDelay, -6, -5, -3, -2, -1, 0, 1, 2, 3, 8, 1<<31 - 1, 1 << 31, 1 << 32, 1<<32 + 3,
	api.MaxEpoch - longestDelay - 1, api.MaxEpoch - longestDelay, api.MaxEpoch - longestUnbonding, api.MaxEpoch - longestUnbonding + 1,
	api.MaxEpoch - 6, api.MaxEpoch - 5, api.MaxEpoch - 4, api.MaxEpoch - 3, api.MaxEpoch - 2, api.MaxEpoch - 1, api.MaxEpoch,
	api.MaxEpoch + 1, api.MaxEpoch + 2, 1 << 41, 1<<62 + 3, math.MaxInt - longestDelay, math.MaxInt - 1, math.MaxInt,
}

// states are all status values, and numbers that are none; among these are some whose least bits look like one.
var states = []int{math.MinInt, math.MinInt + 3, -2, -1, 0, api.Pending, api.Active, api.Exiting, api.Unbonding, api.Withdrawable, api.Paid, api.Merged, 8, 9, 1<<8 + 2, 1<<32 + 3, math.MaxInt - 1, math.MaxInt}

func integer(a uint64) *big.Int { return new(big.Int).SetUint64(a) }

// configs are valid configurations with different delays and penalties.
func configs(t *testing.T) []api.Config {
	t.Helper()
	var all []api.Config
	for _, delays := range [][2]int{{2, 5}, {1, 2}, {1, longestDelay}, {3, 4}, {longestUnbonding, longestDelay}} {
		for _, parts := range [][2]uint64{{1, 4}, {0, 1}, {1, 1}, {2, 3}, {1, 1 << 32}, {1<<32 - 1, 1 << 32}, {1 << 32, 1 << 32}} {
			c := config.Default()
			c.Unbonding, c.SlashDelay = delays[0], delays[1]
			c.PenaltyNum, c.PenaltyDen = parts[0], parts[1]
			if !config.Valid(c) {
				t.Fatalf("field %d of a configuration is not valid", config.Check(c))
			}
			all = append(all, c)
		}
	}
	return all
}

// sample is a validator whose fields all have other values, so that a field which is set by mistake is seen.
func sample(state int) api.Validator {
	return api.Validator{Balance: 50, Status: state, Request: 101, Exit: 102, Withdraw: 103, Deadline: 104}
}

// validators are validators with the status and different other fields.
func validators(state int) []api.Validator {
	var all []api.Validator
	for _, slashed := range []bool{false, true} {
		for _, exit := range []int{api.NoEpoch, -2, 0, 7, math.MinInt, math.MaxInt, 1<<32 - 1} {
			for i, withdraw := range []int{api.NoEpoch, 0, 6, 7, 8, 9, math.MinInt, math.MaxInt, api.MaxEpoch - 1, api.MaxEpoch, api.MaxEpoch + 1} {
				v := sample(state)
				v.Slashed, v.Exit, v.Withdraw = slashed, exit, withdraw
				v.Balance = amounts[(i*5+exit&3)%len(amounts)]
				all = append(all, v)
			}
		}
	}
	return all
}

// isEpoch is the condition that the chapter has for an epoch.
func isEpoch(epoch int) bool { return !(epoch < 0 || epoch > 1<<40) }

// later is an epoch plus a number of epochs, with sums as integers of any size.
func later(epoch, by int) (int, bool) {
	sum := new(big.Int).Add(big.NewInt(int64(epoch)), big.NewInt(int64(by)))
	if !isEpoch(epoch) || sum.Cmp(big.NewInt(1<<40)) > 0 {
		return 0, false
	}
	return int(sum.Int64()), true
}

// amount is the specification of Amount.
func amount(balance, num, den uint64) (uint64, bool) {
	if den == 0 || num > den {
		return 0, false
	}
	product := new(big.Int).Mul(integer(balance), integer(num))
	return product.Div(product, integer(den)).Uint64(), true
}

// accept is the specification of Accept.
func accept(v api.Validator, epoch int) (api.Validator, api.Errno) {
	if !isEpoch(epoch) {
		return api.Validator{}, api.ErrOverflow
	}
	if v.Status != api.Active {
		return api.Validator{}, api.ErrStatus
	}
	v.Status, v.Request = api.Exiting, epoch
	return v, api.OK
}

// assign is the specification of Assign.
func assign(v api.Validator, exit int, c api.Config) (api.Validator, api.Errno) {
	if v.Status != api.Exiting || v.Exit != -1 {
		return api.Validator{}, api.ErrStatus
	}
	until, ok := later(exit, c.Unbonding)
	if !ok {
		return api.Validator{}, api.ErrOverflow
	}
	v.Exit = exit
	if until > v.Withdraw {
		v.Withdraw = until
	}
	return v, api.OK
}

// slash is the specification of Slash.
func slash(v api.Validator, epoch int, c api.Config) (api.Validator, uint64, api.Errno) {
	if v.Slashed {
		return api.Validator{}, 0, api.ErrSlashed
	}
	after := map[int]int{api.Active: api.Exiting, api.Exiting: api.Exiting, api.Unbonding: api.Unbonding, api.Withdrawable: api.Unbonding}
	if after[v.Status] == 0 {
		return api.Validator{}, 0, api.ErrStatus
	}
	until, ok := later(epoch, c.SlashDelay)
	if !ok {
		return api.Validator{}, 0, api.ErrOverflow
	}
	if v.Status == api.Active {
		v.Request = epoch
	}
	burned, _ := amount(v.Balance, c.PenaltyNum, c.PenaltyDen)
	v.Status, v.Slashed, v.Deadline = after[v.Status], true, -1
	v.Balance -= burned
	if until > v.Withdraw {
		v.Withdraw = until
	}
	return v, burned, api.OK
}

// pay is the specification of Pay.
func pay(v api.Validator, epoch int) (api.Validator, uint64, api.Errno) {
	if v.Status != api.Withdrawable || epoch < v.Withdraw {
		return api.Validator{}, 0, api.ErrStatus
	}
	paid := v.Balance
	v.Status, v.Balance = api.Paid, 0
	return v, paid, api.OK
}

// result is what a call returns; calls without an amount have the amount 0.
type result struct {
	v      api.Validator
	amount uint64
	code   api.Errno
}

func changed(v api.Validator, code api.Errno) result { return result{v, 0, code} }

func settled(v api.Validator, amount uint64, code api.Errno) result { return result{v, amount, code} }

// failed is the result of a call that returns an error.
func failed(code api.Errno) result { return result{api.Validator{}, 0, code} }

func expect(t *testing.T, name string, v api.Validator, epoch int, got, want result) {
	t.Helper()
	if got != want {
		t.Errorf("%s(%+v, %d) = %+v; want %+v", name, v, epoch, got, want)
	}
}

// expectAccept compares Accept with the specification, and returns its result.
func expectAccept(t *testing.T, v api.Validator, epoch int) result {
	t.Helper()
	got := changed(penalty.Accept(v, epoch))
	expect(t, "Accept", v, epoch, got, changed(accept(v, epoch)))
	return got
}

// expectAssign compares Assign with the specification, and returns its result.
func expectAssign(t *testing.T, v api.Validator, exit int, c api.Config) result {
	t.Helper()
	got := changed(penalty.Assign(v, exit, c))
	expect(t, "Assign", v, exit, got, changed(assign(v, exit, c)))
	return got
}

// expectSlash compares Slash with the specification, and returns its result.
func expectSlash(t *testing.T, v api.Validator, epoch int, c api.Config) result {
	t.Helper()
	got := settled(penalty.Slash(v, epoch, c))
	expect(t, "Slash", v, epoch, got, settled(slash(v, epoch, c)))
	return got
}

// expectPay compares Pay with the specification, and returns its result.
func expectPay(t *testing.T, v api.Validator, epoch int) result {
	t.Helper()
	got := settled(penalty.Pay(v, epoch))
	expect(t, "Pay", v, epoch, got, settled(pay(v, epoch)))
	return got
}

// P15.4: the example of the document.
func TestExample(t *testing.T) {
	v := api.Validator{Balance: 50, Status: api.Active, Request: api.NoEpoch, Exit: api.NoEpoch, Withdraw: api.NoEpoch, Deadline: api.NoEpoch}
	got, burned, code := penalty.Slash(v, 3, config.Default())
	want := api.Validator{Balance: 38, Status: api.Exiting, Slashed: true, Request: 3, Exit: api.NoEpoch, Withdraw: 8, Deadline: api.NoEpoch}
	if got != want || burned != 12 || code != api.OK {
		t.Errorf("Slash = %+v, %d, %d; want %+v, 12, 0", got, burned, code, want)
	}
}

// P15.1: amounts that are rounded down, large ones, and fractions that there are not.
func TestAmount(t *testing.T) {
	for _, x := range []struct {
		balance, num, den, want uint64
		ok                      bool
	}{
		{50, 1, 4, 12, true},
		{51, 1, 4, 12, true},
		{52, 1, 4, 13, true},
		{50, 0, 4, 0, true},
		{50, 4, 4, 50, true},
		{50, 3, 4, 37, true},
		{0, 1, 4, 0, true},
		{0, 4, 4, 0, true},
		{1, 3, 4, 0, true},
		{3, 1, 4, 0, true},
		{4, 1, 4, 1, true},
		// The product takes more than one word.
		{1 << 63, 6, 8, 3 << 61, true},
		{top, 1, 2, 1<<63 - 1, true},
		{top, top, top, top, true},
		{top, top - 1, top, top - 1, true},
		{top - 1, top - 1, top, top - 2, true},
		{top, 1, top, 1, true},
		{top - 1, 1, top, 0, true},
		{top, 1<<32 - 1, 1 << 32, top - 1<<32, true},
		// Without a divisor, or with more than the whole balance.
		{50, 0, 0, 0, false},
		{50, 1, 0, 0, false},
		{0, 0, 0, 0, false},
		{50, 5, 4, 0, false},
		{0, 5, 4, 0, false},
		{1, 2, 1, 0, false},
		{0, top, top - 1, 0, false},
		{top, top, 0, 0, false},
		{top, top, 1, 0, false},
	} {
		if got, ok := penalty.Amount(x.balance, x.num, x.den); got != x.want || ok != x.ok {
			t.Errorf("Amount(%d, %d, %d) = %d, %v; want %d, %v", x.balance, x.num, x.den, got, ok, x.want, x.ok)
		}
	}
}

func expectAmount(t *testing.T, balance, num, den uint64) {
	t.Helper()
	got, ok := penalty.Amount(balance, num, den)
	if want, wantOK := amount(balance, num, den); got != want || ok != wantOK {
		t.Errorf("Amount(%d, %d, %d) = %d, %v; want %d, %v", balance, num, den, got, ok, want, wantOK)
	}
	if got > balance {
		t.Errorf("Amount(%d, %d, %d) = %d, which exceeds the balance", balance, num, den, got)
	}
}

// P15.1: all small amounts, all combinations of those at the limits of words, and random ones.
func TestManyAmounts(t *testing.T) {
	for balance := range uint64(30) {
		for num := range uint64(15) {
			for den := range uint64(15) {
				expectAmount(t, balance, num, den)
			}
		}
	}
	for _, balance := range amounts {
		for _, num := range amounts {
			for _, den := range amounts {
				expectAmount(t, balance, num, den)
			}
		}
	}
	random := rand.New(rand.NewSource(15))
	word := func() uint64 { return random.Uint64() >> random.Intn(64) }
	for range 20000 {
		den := word()
		expectAmount(t, word(), word(), den)
		expectAmount(t, word(), word()%(den|1), den|1)
	}
}

// P15.2: an accepted exit, and each reason why it is not accepted.
func TestAccept(t *testing.T) {
	for _, epoch := range []int{0, 1, 5, 101, api.MaxEpoch - 1, api.MaxEpoch} {
		want := sample(api.Exiting)
		want.Request = epoch
		if got := expectAccept(t, sample(api.Active), epoch); got != changed(want, api.OK) {
			t.Errorf("Accept in epoch %d = %+v", epoch, got)
		}
	}
	for _, epoch := range []int{math.MinInt, -5, api.NoEpoch, api.MaxEpoch + 1, math.MaxInt} {
		// The epoch is checked before the status.
		for _, state := range states {
			if got := expectAccept(t, sample(state), epoch); got != failed(api.ErrOverflow) {
				t.Errorf("Accept with the status %d in epoch %d = %+v", state, epoch, got)
			}
		}
	}
	for _, state := range states {
		if state == api.Active {
			continue
		}
		if got := expectAccept(t, sample(state), 5); got != failed(api.ErrStatus) {
			t.Errorf("Accept with the status %d = %+v", state, got)
		}
	}
}

// P15.2: only the status matters; a slashed validator that is Active, or one that has an exit epoch, is accepted as well.
func TestAcceptWithOtherFields(t *testing.T) {
	v := sample(api.Active)
	v.Slashed = true
	want := v
	want.Status, want.Request = api.Exiting, 9
	if got := expectAccept(t, v, 9); got != changed(want, api.OK) {
		t.Errorf("Accept of a slashed validator = %+v", got)
	}
	if got := expectAccept(t, api.Validator{Status: api.Active}, 0); got != changed(api.Validator{Status: api.Exiting}, api.OK) {
		t.Errorf("Accept of a validator of zero values = %+v", got)
	}
}

// exiting is a validator without an exit epoch, whose Withdraw is given.
func exiting(withdraw int) api.Validator {
	v := sample(api.Exiting)
	v.Exit, v.Withdraw = api.NoEpoch, withdraw
	return v
}

// P15.3: Withdraw is the greater one of what it was and the exit epoch plus Unbonding.
func TestAssign(t *testing.T) {
	for _, x := range []struct{ before, exit, unbonding, want int }{
		{api.NoEpoch, 3, 2, 5},
		{0, 0, 1, 1},
		{4, 3, 2, 5},
		{5, 3, 2, 5},
		{6, 3, 2, 6},
		{8, 3, 2, 8},
		{math.MinInt, 3, 2, 5},
		// A Withdraw beyond the greatest epoch is greater, and is no error.
		{api.MaxEpoch + 7, 3, 2, api.MaxEpoch + 7},
		{math.MaxInt, 3, 2, math.MaxInt},
		{api.NoEpoch, 0, longestUnbonding, longestUnbonding},
		{api.NoEpoch, api.MaxEpoch - longestUnbonding, longestUnbonding, api.MaxEpoch},
		{api.NoEpoch, api.MaxEpoch - 2, 2, api.MaxEpoch},
		{api.NoEpoch, api.MaxEpoch - 1, 1, api.MaxEpoch},
	} {
		c := config.Default()
		c.Unbonding, c.SlashDelay = x.unbonding, x.unbonding+1
		want := exiting(x.want)
		want.Exit = x.exit
		if got := expectAssign(t, exiting(x.before), x.exit, c); got != changed(want, api.OK) {
			t.Errorf("Assign of %d with Unbonding %d and Withdraw %d = %+v", x.exit, x.unbonding, x.before, got)
		}
	}
}

// P15.3: each reason why no exit epoch is assigned.
func TestAssignErrors(t *testing.T) {
	c := config.Default()
	tooGreat := []int{math.MinInt, math.MinInt + 1, -2, api.NoEpoch, api.MaxEpoch - 1, api.MaxEpoch, api.MaxEpoch + 1, math.MaxInt - 2, math.MaxInt - 1, math.MaxInt}
	for _, exit := range tooGreat {
		for _, withdraw := range []int{api.NoEpoch, 8, api.MaxEpoch, math.MaxInt} {
			if got := expectAssign(t, exiting(withdraw), exit, c); got != failed(api.ErrOverflow) {
				t.Errorf("Assign of %d = %+v", exit, got)
			}
		}
	}
	// The status and the exit epoch so far are checked before the new one.
	for _, exit := range append(tooGreat, 0, 3) {
		for _, state := range states {
			v := exiting(8)
			v.Status = state
			if state == api.Exiting {
				continue
			}
			if got := expectAssign(t, v, exit, c); got != failed(api.ErrStatus) {
				t.Errorf("Assign of %d with the status %d = %+v", exit, state, got)
			}
		}
		for _, before := range []int{math.MinInt, -2, 0, 1, 3, api.MaxEpoch, 1<<32 - 1, math.MaxInt} {
			v := exiting(8)
			v.Exit = before
			if got := expectAssign(t, v, exit, c); got != failed(api.ErrStatus) {
				t.Errorf("Assign of %d with the exit epoch %d = %+v", exit, before, got)
			}
		}
	}
}

// P15.3: an exit epoch is assigned once, also to a slashed validator.
func TestAssignOnce(t *testing.T) {
	for _, slashed := range []bool{false, true} {
		v := exiting(api.NoEpoch)
		v.Slashed = slashed
		first := expectAssign(t, v, 3, config.Default())
		if first.code != api.OK || first.v.Slashed != slashed {
			t.Fatalf("Assign = %+v", first)
		}
		if got := expectAssign(t, first.v, 3, config.Default()); got != failed(api.ErrStatus) {
			t.Errorf("a second Assign = %+v", got)
		}
	}
}

// P15.4: what slashing does to a validator with each status to which it applies.
func TestSlash(t *testing.T) {
	for _, x := range []struct{ before, after, request int }{
		// Only an active validator gets a new Request.
		{api.Active, api.Exiting, 6},
		{api.Exiting, api.Exiting, 101},
		{api.Unbonding, api.Unbonding, 101},
		{api.Withdrawable, api.Unbonding, 101},
	} {
		for _, withdraws := range [][2]int{{api.NoEpoch, 11}, {10, 11}, {11, 11}, {12, 12}, {103, 103}, {math.MinInt, 11}, {api.MaxEpoch + 1, api.MaxEpoch + 1}, {math.MaxInt, math.MaxInt}} {
			v := sample(x.before)
			v.Withdraw = withdraws[0]
			want := api.Validator{Balance: 38, Status: x.after, Slashed: true, Request: x.request, Exit: 102, Withdraw: withdraws[1], Deadline: api.NoEpoch}
			if got := expectSlash(t, v, 6, config.Default()); got != settled(want, 12, api.OK) {
				t.Errorf("Slash with the status %d and Withdraw %d = %+v", x.before, withdraws[0], got)
			}
		}
	}
}

// P15.4: the first and the last epoch in which a validator can be slashed.
func TestSlashEpochs(t *testing.T) {
	for _, x := range []struct{ epoch, delay, want int }{
		{0, 5, 5},
		{0, longestDelay, longestDelay},
		{api.MaxEpoch - 5, 5, api.MaxEpoch},
		{api.MaxEpoch - longestDelay, longestDelay, api.MaxEpoch},
	} {
		c := config.Default()
		c.SlashDelay = x.delay
		for _, state := range []int{api.Active, api.Exiting, api.Unbonding, api.Withdrawable} {
			v := sample(state)
			v.Withdraw = api.NoEpoch
			if got := expectSlash(t, v, x.epoch, c); got.code != api.OK || got.v.Withdraw != x.want {
				t.Errorf("Slash in epoch %d with SlashDelay %d = %+v", x.epoch, x.delay, got)
			}
			if got := expectSlash(t, v, api.MaxEpoch-x.delay+1, c); got != failed(api.ErrOverflow) {
				t.Errorf("Slash in epoch %d with SlashDelay %d = %+v", api.MaxEpoch-x.delay+1, x.delay, got)
			}
		}
	}
}

// P15.4: the part of a balance that is burned.
func TestSlashBalance(t *testing.T) {
	for _, x := range []struct{ balance, num, den, burned uint64 }{
		{50, 0, 4, 0},
		{50, 4, 4, 50},
		{50, 1, 1 << 32, 0},
		{0, 1, 4, 0},
		{3, 1, 4, 0},
		{7, 3, 4, 5},
		{top, 1, 4, 1<<62 - 1},
		{top, 1, 1, top},
		{1 << 63, 3, 4, 3 << 61},
		{top, 1<<32 - 1, 1 << 32, top - 1<<32},
	} {
		c := config.Default()
		c.PenaltyNum, c.PenaltyDen = x.num, x.den
		v := sample(api.Active)
		v.Balance = x.balance
		if got := expectSlash(t, v, 6, c); got.code != api.OK || got.amount != x.burned || got.v.Balance != x.balance-x.burned {
			t.Errorf("Slash of %d with %d/%d = %+v", x.balance, x.num, x.den, got)
		}
	}
}

// P15.4: each reason why a validator is not slashed, in order.
func TestSlashErrors(t *testing.T) {
	c := config.Default()
	for _, epoch := range []int{math.MinInt, -6, -5, api.NoEpoch, 0, 6, api.MaxEpoch - 5, api.MaxEpoch - 4, api.MaxEpoch, api.MaxEpoch + 1, math.MaxInt - 4, math.MaxInt} {
		for _, state := range states {
			v := sample(state)
			_, applies := status.Next(state, status.Slash)
			code := api.OK
			switch {
			case !applies:
				code = api.ErrStatus
			case epoch < 0 || epoch > api.MaxEpoch-5:
				code = api.ErrOverflow
			}
			if got := expectSlash(t, v, epoch, c); code != api.OK && got != failed(code) {
				t.Errorf("Slash with the status %d in epoch %d = %+v; want the error %d", state, epoch, got, code)
			}
			v.Slashed = true
			if got := expectSlash(t, v, epoch, c); got != failed(api.ErrSlashed) {
				t.Errorf("Slash of a slashed validator with the status %d in epoch %d = %+v", state, epoch, got)
			}
		}
	}
}

// P15.5: a payment, and each reason why there is none.
func TestPay(t *testing.T) {
	for _, x := range []struct {
		withdraw, epoch int
		paid            bool
	}{
		{5, 5, true},
		{5, 6, true},
		{5, 4, false},
		{0, 0, true},
		{0, -1, false},
		{api.NoEpoch, -1, true},
		{api.NoEpoch, -2, false},
		// Whether the numbers are epochs does not matter.
		{math.MinInt, math.MinInt, true},
		{math.MinInt + 1, math.MinInt, false},
		{math.MinInt, math.MaxInt, true},
		{math.MaxInt, math.MinInt, false},
		{math.MaxInt, math.MaxInt - 1, false},
		{math.MaxInt, math.MaxInt, true},
		{api.MaxEpoch + 1, api.MaxEpoch, false},
		{api.MaxEpoch + 1, api.MaxEpoch + 1, true},
	} {
		for _, balance := range amounts {
			v := sample(api.Withdrawable)
			v.Balance, v.Withdraw = balance, x.withdraw
			want := failed(api.ErrStatus)
			if x.paid {
				after := v
				after.Status, after.Balance = api.Paid, 0
				want = settled(after, balance, api.OK)
			}
			if got := expectPay(t, v, x.epoch); got != want {
				t.Errorf("Pay of %d in epoch %d with Withdraw %d = %+v; want %+v", balance, x.epoch, x.withdraw, got, want)
			}
		}
	}
	for _, state := range states {
		if state == api.Withdrawable {
			continue
		}
		for _, epoch := range []int{102, 103, math.MaxInt} {
			if got := expectPay(t, sample(state), epoch); got != failed(api.ErrStatus) {
				t.Errorf("Pay with the status %d in epoch %d = %+v", state, epoch, got)
			}
		}
	}
}

// P15.5: the whole balance is paid once; a slashed validator is paid what is left of it.
func TestPayOnce(t *testing.T) {
	v := sample(api.Withdrawable)
	v.Slashed, v.Exit, v.Deadline = true, api.NoEpoch, api.NoEpoch
	first := expectPay(t, v, 103)
	if first.amount != 50 || first.code != api.OK || !first.v.Slashed {
		t.Fatalf("Pay = %+v", first)
	}
	if got := expectPay(t, first.v, 103); got != failed(api.ErrStatus) {
		t.Errorf("a second Pay = %+v", got)
	}
}

// P15.2 to P15.5 and rule 3: all functions with many validators, epochs and configurations; no field changes that is not mentioned.
func TestMany(t *testing.T) {
	all := configs(t)
	for _, state := range states {
		for n, v := range validators(state) {
			for i, epoch := range epochs {
				c := all[(n+i*3)%len(all)]
				expectAccept(t, v, epoch)
				expectAssign(t, v, epoch, c)
				expectSlash(t, v, epoch, c)
				expectPay(t, v, epoch)
			}
		}
	}
}

// P15.3 and P15.4: each configuration with each epoch.
func TestConfigurations(t *testing.T) {
	for _, c := range configs(t) {
		for _, epoch := range epochs {
			for _, withdraw := range []int{api.NoEpoch, 8, api.MaxEpoch} {
				v := exiting(withdraw)
				expectAssign(t, v, epoch, c)
				for _, balance := range amounts {
					v.Balance = balance
					expectSlash(t, v, epoch, c)
				}
			}
		}
	}
}

// life is a validator with what has happened to it.
type life struct {
	v               api.Validator
	c               api.Config
	epoch           int
	assigned        int // the exit epoch, or NoEpoch
	slashed         int // the epoch of the slashing, or NoEpoch
	deposited, paid uint64
	burned          uint64
}

func born(balance uint64, c api.Config) life {
	v := api.Validator{Balance: balance, Status: api.Active, Request: api.NoEpoch, Exit: api.NoEpoch, Withdraw: api.NoEpoch, Deadline: api.NoEpoch}
	return life{v: v, c: c, assigned: api.NoEpoch, slashed: api.NoEpoch, deposited: balance}
}

// pass changes the status by an event, whether it is the time for it or not.
func (l *life) pass(event int) {
	if next, ok := status.Next(l.v.Status, event); ok {
		l.v.Status = next
	}
}

// The steps of a life.
const (
	wait = iota // for an epoch
	request
	schedule
	penalize
	collect
	leave
	ripen
	steps
)

// step performs a step, which has no effect if it is not possible, and checks P15.6.
func (l *life) step(t *testing.T, step int) {
	t.Helper()
	switch step {
	case wait:
		l.epoch++
	case request:
		if v, code := penalty.Accept(l.v, l.epoch); code == api.OK {
			l.v = v
		}
	case schedule:
		if v, code := penalty.Assign(l.v, l.epoch+1, l.c); code == api.OK {
			l.v, l.assigned = v, l.epoch+1
		}
	case penalize:
		if v, burned, code := penalty.Slash(l.v, l.epoch, l.c); code == api.OK {
			l.v, l.slashed = v, l.epoch
			l.burned += burned
		}
	case collect:
		if v, paid, code := penalty.Pay(l.v, l.epoch); code == api.OK {
			l.v = v
			l.paid += paid
			l.checkPayment(t)
		}
	case leave:
		l.pass(status.Leave)
	case ripen:
		l.pass(status.Ripen)
	}
	if l.deposited != l.v.Balance+l.paid+l.burned {
		t.Errorf("%+v: the balance, the payment and the penalty do not add up", *l)
	}
}

// checkPayment checks the epoch of a payment.
func (l *life) checkPayment(t *testing.T) {
	t.Helper()
	if l.slashed != api.NoEpoch && l.epoch < l.slashed+l.c.SlashDelay {
		t.Errorf("%+v: paid before the epoch of the slashing plus SlashDelay", *l)
	}
	if l.assigned != api.NoEpoch && l.epoch < l.assigned+l.c.Unbonding {
		t.Errorf("%+v: paid before the exit epoch plus Unbonding", *l)
	}
}

// P15.6: random lives, also with events that come too early.
func TestPaidNotTooEarly(t *testing.T) {
	random := rand.New(rand.NewSource(156))
	reached := map[[2]bool]int{} // payments, by whether there was an assignment and a slashing
	for range 30000 {
		c := config.Default()
		c.Unbonding = 1 + random.Intn(4)
		c.SlashDelay = c.Unbonding + 1 + random.Intn(4)
		c.PenaltyNum = uint64(random.Intn(5))
		l := born(uint64(random.Intn(100)), c)
		for range 40 {
			l.step(t, random.Intn(steps))
		}
		if l.v.Status == api.Paid {
			reached[[2]bool{l.assigned != api.NoEpoch, l.slashed != api.NoEpoch}]++
		}
	}
	for _, was := range [][2]bool{{false, false}, {false, true}, {true, false}, {true, true}} {
		if reached[was] == 0 {
			t.Errorf("no payment with assignment %v and slashing %v", was[0], was[1])
		}
	}
}

// P15.6: the earliest payment of each order of an assignment and a slashing, in each epoch.
func TestEarliestPayment(t *testing.T) {
	c := config.Default()
	for slashedIn := -1; slashedIn <= 12; slashedIn++ {
		for exit := 1; exit <= 8; exit++ {
			want := exit + 2
			// A slashing after the payment does not apply.
			if slashedIn >= 0 && slashedIn <= want {
				want = max(want, slashedIn+5)
			}
			l := born(50, c)
			l.step(t, request)
			for l.v.Status != api.Paid && l.epoch < 100 {
				if l.epoch == exit-1 {
					l.step(t, schedule)
				}
				if l.epoch == slashedIn {
					l.step(t, penalize)
				}
				if l.assigned != api.NoEpoch {
					l.step(t, leave)
					l.step(t, ripen)
				}
				l.step(t, collect)
				if l.v.Status != api.Paid {
					l.step(t, wait)
				}
			}
			if l.epoch != want {
				t.Errorf("slashed in %d, exit in %d: paid in %d; want %d", slashedIn, exit, l.epoch, want)
			}
		}
	}
}

// P15.4: a withdrawable validator that is slashed has to wait again.
func TestSlashedWhenWithdrawable(t *testing.T) {
	v := sample(api.Withdrawable)
	v.Withdraw = 6
	if got := expectPay(t, v, 6); got.amount != 50 {
		t.Errorf("Pay before the slashing = %+v", got)
	}
	slashed := expectSlash(t, v, 6, config.Default())
	if got := expectPay(t, slashed.v, 11); got != failed(api.ErrStatus) {
		t.Errorf("Pay of an unbonding validator = %+v", got)
	}
	ripe := slashed.v
	ripe.Status = api.Withdrawable
	if got := expectPay(t, ripe, 10); got != failed(api.ErrStatus) {
		t.Errorf("Pay before Withdraw = %+v", got)
	}
	if got := expectPay(t, ripe, 11); got.amount != 38 || got.code != api.OK {
		t.Errorf("Pay = %+v", got)
	}
}

// P1: nothing panics with a configuration that is not valid; the results are not specified.
func TestInvalidConfigurations(t *testing.T) {
	ends := []int{math.MinInt, -1, 0, 1 << 41, math.MaxInt}
	for _, unbonding := range ends {
		for _, delay := range ends {
			for _, num := range []uint64{0, 5, top} {
				for _, den := range []uint64{0, 1, top} {
					c := api.Config{Unbonding: unbonding, SlashDelay: delay, PenaltyNum: num, PenaltyDen: den}
					for _, epoch := range epochs {
						penalty.Assign(exiting(8), epoch, c)
						penalty.Slash(sample(api.Active), epoch, c)
					}
				}
			}
		}
	}
}

// Rule 6: the functions may be called concurrently.
func TestConcurrent(t *testing.T) {
	c := config.Default()
	v := sample(api.Active)
	v.Exit, v.Withdraw = api.NoEpoch, api.NoEpoch
	var workers sync.WaitGroup
	for worker := range 8 {
		workers.Go(func() {
			for round := range 200 {
				epoch := worker*1000 + round
				accepted := changed(penalty.Accept(v, epoch))
				assigned := changed(penalty.Assign(accepted.v, epoch+1, c))
				slashed := settled(penalty.Slash(assigned.v, epoch, c))
				want := api.Validator{Balance: 38, Status: api.Exiting, Slashed: true, Request: epoch, Exit: epoch + 1, Withdraw: epoch + 5, Deadline: api.NoEpoch}
				if slashed != settled(want, 12, api.OK) {
					t.Errorf("epoch %d: %+v; want %+v", epoch, slashed, want)
					return
				}
			}
		})
	}
	workers.Wait()
}
