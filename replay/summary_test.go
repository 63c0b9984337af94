package replay_test

import (
	"math"
	"math/big"
	"math/rand"
	"slices"
	"testing"

	"egress/api"
	"egress/config"
	"egress/replay"
	"egress/script"
)

func expectSummary(t *testing.T, l []api.Op, r []api.Receipt, want replay.Summary) {
	t.Helper()
	if got := replay.Summarize(l, r); got != want {
		t.Errorf("Summarize(%+v, %+v) = %+v; want %+v", l, r, got, want)
	}
}

// paying is a receipt with payments of these amounts.
func paying(code api.Errno, amounts ...uint64) api.Receipt {
	r := api.Receipt{Code: code, Index: -1, Deadline: -1, Assigned: []api.Assignment{{Index: 1, Epoch: 2}}}
	for i, amount := range amounts {
		r.Payments = append(r.Payments, api.Payment{Index: i, Amount: amount, Full: i%2 == 0})
	}
	return r
}

// P25.6: what is counted, for each kind of operations.
func TestSummarize(t *testing.T) {
	l := []api.Op{
		{Kind: api.Deposit, Amount: 32},
		{Kind: api.Deposit, Amount: 15},
		{Kind: api.Tick},
		{Kind: api.Malformed},
		{Kind: api.Exit},
		{Kind: api.Partial, Amount: 9},
		{Kind: api.Tick},
		{Kind: api.Deposit, Amount: 40},
	}
	r := []api.Receipt{
		paying(api.OK), paying(api.ErrAmount), paying(api.OK, 5, 7), paying(api.ErrOp),
		paying(api.ErrStatus), paying(api.OK), paying(api.OK, 20), paying(api.OK),
	}
	expectSummary(t, l, r, replay.Summary{Accepted: 5, Rejected: 3, Blocks: 2, Payments: 3, Deposited: 72, Paid: 32})
	expectSummary(t, nil, nil, replay.Summary{})
	expectSummary(t, []api.Op{}, []api.Receipt{}, replay.Summary{})
}

// P25.6: a receipt that was not accepted counts as rejected only, whatever its code and its payments are.
func TestSummarizeRejected(t *testing.T) {
	for _, code := range []api.Errno{1, 2, 3, 4, 5, 6, 7, 8, 9, 10, 11, 12, 13, 14, -1, 1 << 32, math.MinInt, math.MaxInt} {
		for kind := -1; kind <= 8; kind++ {
			o, r := api.Op{Kind: kind, Amount: 7}, paying(code, 3, 4)
			r.Kind = kind
			expectSummary(t, []api.Op{o}, []api.Receipt{r}, replay.Summary{Rejected: 1})
		}
	}
}

// P25.6: ticks and deposits are operations; the payments of all accepted receipts count, and zero amounts are payments too.
func TestSummarizeKinds(t *testing.T) {
	for _, kind := range []int{math.MinInt, -1, 0, 1, 2, 3, 4, 5, 6, 7, 8, 1<<32 + 1, 1<<32 + 7, 256 + 1, 256 + 7, math.MaxInt} {
		for _, other := range []int{kind, 0, 1, 2, 7} {
			o := api.Op{Kind: kind, Index: 1, Target: 2, Amount: 50}
			r := paying(api.OK, 3, 0, 4)
			r.Kind, r.Block, r.Visits = other, 6, 5
			want := replay.Summary{Accepted: 1, Payments: 3, Paid: 7}
			switch kind {
			case 1:
				want.Deposited = 50
			case 7:
				want.Blocks = 1
			}
			expectSummary(t, []api.Op{o}, []api.Receipt{r}, want)
		}
	}
}

// P25.6: operations and receipts without a partner do not matter, also beyond the length of a slice.
func TestSummarizePartners(t *testing.T) {
	var l []api.Op
	var r []api.Receipt
	for i := range 6 {
		l = append(l, api.Op{Kind: api.Deposit, Amount: 1 << i})
		r = append(r, paying(api.OK, 1<<(10+i)))
	}
	for n := range 7 {
		for m := range 7 {
			k := min(n, m)
			sum := uint64(1)<<k - 1
			want := replay.Summary{Accepted: k, Payments: k, Deposited: sum, Paid: sum << 10}
			expectSummary(t, l[:n], r[:m], want)
			expectSummary(t, l[:n:n], r[:m:m], want)
		}
	}
	expectSummary(t, l, nil, replay.Summary{})
	expectSummary(t, nil, r, replay.Summary{})
}

// P25.6: sums are taken modulo 2^64.
func TestSummarizeWraps(t *testing.T) {
	deposits := func(amounts ...uint64) []api.Op {
		var l []api.Op
		for _, amount := range amounts {
			l = append(l, api.Op{Kind: api.Deposit, Amount: amount})
		}
		return l
	}
	r := []api.Receipt{paying(api.OK, top), paying(api.OK, 1), paying(api.OK, 1<<63, 1<<63), paying(api.OK, 5)}
	for n, want := range []replay.Summary{
		{},
		{Accepted: 1, Payments: 1, Deposited: top, Paid: top},
		{Accepted: 2, Payments: 2, Deposited: top - 1, Paid: 0},
		{Accepted: 3, Payments: 4, Deposited: 1<<63 - 2, Paid: 0},
		{Accepted: 4, Payments: 5, Deposited: 1 << 63, Paid: 5},
	} {
		expectSummary(t, deposits(top, top, 1<<63, 2)[:n], r[:n], want)
	}
}

// summary is the specification of Summarize, with sums of any size.
func summary(l []api.Op, r []api.Receipt) replay.Summary {
	var s replay.Summary
	deposited, paid := new(big.Int), new(big.Int)
	for i, o := range l {
		if i >= len(r) {
			break
		}
		if r[i].Code != 0 {
			s.Rejected++
			continue
		}
		s.Accepted++
		if o.Kind == 7 {
			s.Blocks++
		}
		if o.Kind == 1 {
			deposited.Add(deposited, new(big.Int).SetUint64(o.Amount))
		}
		for _, p := range r[i].Payments {
			s.Payments++
			paid.Add(paid, new(big.Int).SetUint64(p.Amount))
		}
	}
	modulus := new(big.Int).Lsh(big.NewInt(1), 64)
	s.Deposited = deposited.Mod(deposited, modulus).Uint64()
	s.Paid = paid.Mod(paid, modulus).Uint64()
	return s
}

// P25.6: Summarize agrees with the specification for random pairs, and leaves them as they are.
func TestSummarizeRandom(t *testing.T) {
	source := rand.New(rand.NewSource(256))
	amount := func() uint64 { return source.Uint64() >> source.Intn(64) }
	for range 3000 {
		l, r := make([]api.Op, source.Intn(12)), make([]api.Receipt, source.Intn(12))
		for i := range l {
			l[i] = api.Op{Kind: source.Intn(9), Amount: amount()}
		}
		for i := range r {
			var amounts []uint64
			for range source.Intn(4) {
				amounts = append(amounts, amount())
			}
			r[i] = paying(api.Errno(source.Intn(3)/2*source.Intn(14)), amounts...)
			r[i].Kind = source.Intn(9)
		}
		operations, receipts := slices.Clone(l), copies(r)
		expectSummary(t, l, r, summary(l, r))
		if !slices.Equal(l, operations) {
			t.Error("the operations have changed")
		}
		expectReceipts(t, r, receipts)
	}
}

// P25.6: the summary of what Run returns agrees with the snapshot.
func TestSummarizeRun(t *testing.T) {
	b := life()
	r := run(t, config.Default(), b)
	expectSummary(t, script.Decode(b), r.Receipts, replay.Summary{
		Accepted: 22, Rejected: 6, Blocks: 20, Payments: 1, Deposited: 32, Paid: 32,
	})
}
