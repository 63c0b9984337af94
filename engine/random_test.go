package engine_test

import (
	"fmt"
	"math"
	"math/rand"
	"testing"

	"egress/api"
	"egress/config"
	"egress/engine"
	"egress/receipt"
)

// randomConfig is a valid configuration with small numbers, so that each limit is reached soon. Some have amounts near the greatest ones, and some deadlines near the greatest epoch.
func randomConfig(source *rand.Rand) api.Config {
	from := func(least, most int) int { return least + source.Intn(most-least+1) }
	amount := func(least, most uint64) uint64 { return least + uint64(source.Int63n(int64(most-least)+1)) }
	c := api.Config{Capacity: from(1, 9), QueueSize: from(1, 5)}
	c.MinDeposit = amount(1, 12)
	c.MaxDeposit = c.MinDeposit + amount(0, 30)
	c.SupplyCap = c.MaxDeposit + amount(0, 150)
	c.MinBalance = amount(1, c.MinDeposit)
	c.MaxBalance = amount(c.MaxDeposit, min(c.SupplyCap, 2*c.MaxDeposit))
	c.MinChurn, c.Quotient, c.ForcedCap = amount(1, 40), amount(1, 8), amount(0, 60)
	c.Unbonding = from(1, 4)
	c.SlashDelay = c.Unbonding + from(1, 6)
	c.RingLen, c.EpochLen, c.Visits, c.Payments = from(1, 5), from(1, 4), from(1, 6), from(1, 4)
	c.Partials, c.Merges = from(0, min(c.Visits, c.Payments)-1), from(0, 3)
	c.PenaltyDen = amount(1, 6)
	c.PenaltyNum = amount(0, c.PenaltyDen)
	switch source.Intn(6) {
	case 0:
		for _, a := range []*uint64{&c.MinDeposit, &c.MaxDeposit, &c.SupplyCap, &c.MinBalance, &c.MaxBalance, &c.MinChurn, &c.ForcedCap} {
			*a <<= 51
		}
	case 1:
		c.MinChurn, c.ForcedCap = 1, api.MaxEpoch-amount(0, 120)
	}
	return c
}

// randomOp is an operation that is accepted often enough.
func randomOp(source *rand.Rand, c api.Config, validators int) api.Op {
	index := func() int {
		if source.Intn(12) == 0 {
			return noIndices[source.Intn(len(noIndices))]
		}
		return source.Intn(validators + 1)
	}
	o := api.Op{Index: index(), Target: index(), Amount: c.MinDeposit + uint64(source.Int63n(int64(c.MaxDeposit-c.MinDeposit)+1))}
	switch source.Intn(6) {
	case 0:
		o.Amount = []uint64{0, 1, c.MinDeposit - 1, c.MinDeposit, c.MaxDeposit, c.MaxDeposit + 1, top}[source.Intn(7)]
	case 1:
		o.Amount >>= source.Intn(6)
	}
	kinds := []int{1, 1, 1, 2, 2, 3, 4, 5, 5, 6, 6, 7, 7, 7, 7, 7, 7, 7, 7}
	o.Kind = kinds[source.Intn(len(kinds))]
	if source.Intn(60) == 0 {
		o.Kind = []int{0, 8, -1, 1<<32 + 1, math.MinInt, math.MaxInt}[source.Intn(6)]
	}
	return o
}

// outcome is a kind of operations with a code of its receipts.
type outcome struct {
	kind int
	code api.Errno
}

// outcomes are all codes of each kind that can be reached in a short time, except for the error of the ledger beyond the greatest amount.
func outcomes() map[outcome]bool {
	all := map[outcome]bool{{7, api.OK}: true, {0, api.ErrOp}: true}
	for kind, codes := range map[int][]api.Errno{
		1: {api.OK, api.ErrAmount, api.ErrFull, api.ErrQueue, api.ErrSupply},
		2: {api.OK, api.ErrIndex, api.ErrStatus, api.ErrQueue, api.ErrOverflow},
		3: {api.OK, api.ErrIndex, api.ErrStatus, api.ErrQueue, api.ErrOverflow},
		4: {api.OK, api.ErrIndex, api.ErrSlashed, api.ErrStatus, api.ErrQueue},
		5: {api.OK, api.ErrIndex, api.ErrSame, api.ErrStatus, api.ErrAmount, api.ErrQueue},
		6: {api.OK, api.ErrIndex, api.ErrAmount, api.ErrStatus, api.ErrQueue},
	} {
		for _, code := range codes {
			all[outcome{kind, code}] = true
		}
	}
	return all
}

// attempt is a kind of operations with the status of the validator that it is for.
type attempt struct{ kind, status int }

// attempts are all operations for a validator in all of its statuses.
func attempts() map[attempt]bool {
	all := map[attempt]bool{}
	for kind := api.Exit; kind <= api.Partial; kind++ {
		for status := api.Pending; status <= api.Merged; status++ {
			all[attempt{kind, status}] = true
		}
	}
	return all
}

// P22.1 to P22.4, P3: receipts and snapshots are those of the model after each operation, and a rejected one changes nothing.
func TestModel(t *testing.T) {
	source := rand.New(rand.NewSource(22))
	missing, untried := outcomes(), attempts()
	for n := range 3000 {
		c := randomConfig(source)
		if n%20 == 0 {
			c = config.Default()
		}
		e, m := start(t, c), &model{c: c}
		for range 200 {
			o := randomOp(source, c, len(m.validators))
			before := e.Snapshot()
			if m.has(o.Index) {
				delete(untried, attempt{o.Kind, m.validators[o.Index].Status})
			}
			got, want := e.Apply(o), m.apply(o)
			if !receipt.Same(got, want) {
				t.Fatalf("%+v with %+v: %+v; want %+v", before, o, got, want)
			}
			after := e.Snapshot()
			if !same(after, m.snapshot()) {
				t.Fatalf("%+v after %+v: %+v; want %+v", before, o, after, m.snapshot())
			}
			if got.Code != api.OK && !same(before, after) {
				t.Fatalf("%+v has changed %+v to %+v", o, before, after)
			}
			expectValidator(t, e, m, o.Index)
			delete(missing, outcome{o.Kind, got.Code})
		}
		if e.Config() != c {
			t.Fatal(e.Config(), c)
		}
	}
	if len(missing)+len(untried) > 0 {
		t.Errorf("never seen: %v, %v", missing, untried)
	}
}

// expectValidator compares Get with the model.
func expectValidator(t *testing.T, e *engine.Engine, m *model, i int) {
	t.Helper()
	want, has := api.Validator{}, m.has(i)
	if has {
		want = m.validators[i]
	}
	if got, ok := e.Get(i); got != want || ok != has {
		t.Fatalf("Get(%d) = %+v, %v; want %+v, %v", i, got, ok, want, has)
	}
}

// request is what has happened to an exit.
type request struct {
	index, class   int
	accepted       int // the number of the operation
	deadline       int
	slashed        int // the epoch, or NoEpoch
	assigned       int // the number of the assignment, or -1
	exit           int
	weight         uint64 // at the assignment
	paid, payments int
	amount         uint64
}

// watch records the exits of an engine, from its receipts only.
type watch struct {
	t           *testing.T
	c           api.Config
	e           *engine.Engine
	requests    []*request
	operations  int
	assignments int
	deposits    uint64 // the sum of accepted deposits
	paid        uint64 // the sum of payments
}

// of is the exit of a validator, or nil.
func (w *watch) of(i int) *request {
	for _, r := range w.requests {
		if r.index == i {
			return r
		}
	}
	return nil
}

// apply applies an operation and checks what has to hold for each of them.
func (w *watch) apply(o api.Op) {
	before := w.e.Snapshot()
	r := w.e.Apply(o)
	w.operations++
	if r.Code == api.OK {
		w.record(o, r, before)
	}
	after := w.e.Snapshot()
	if sum := balances(after) + after.Paid + after.Burned; sum != after.Deposited || after.Deposited != w.deposits || after.Paid != w.paid {
		w.t.Fatalf("balances, payments and penalties are %d, the deposits %d: %+v", sum, w.deposits, after)
	}
}

// balances is the sum of all balances, which never exceeds the greatest amount.
func balances(s engine.Snapshot) uint64 {
	sum := uint64(0)
	for _, v := range s.Validators {
		sum += v.Balance
	}
	return sum
}

func (w *watch) record(o api.Op, r api.Receipt, before engine.Snapshot) {
	switch o.Kind {
	case api.Deposit:
		w.deposits += o.Amount
	case api.Exit, api.Eject, api.Slash:
		x := w.of(r.Index)
		if x == nil {
			x = &request{index: r.Index, accepted: w.operations, deadline: r.Deadline, slashed: -1, assigned: -1, paid: -1}
			if o.Kind == api.Exit {
				x.class = api.Voluntary
			}
			w.requests = append(w.requests, x)
		} else if o.Kind != api.Slash {
			w.t.Fatalf("%d has a second exit: %+v", r.Index, r)
		}
		if o.Kind == api.Slash {
			x.slashed = r.Epoch
		}
	case api.Tick:
		w.tick(r, before)
	}
}

func (w *watch) tick(r api.Receipt, before engine.Snapshot) {
	if r.Visits > w.c.Visits || len(r.Payments) > w.c.Payments {
		w.t.Fatalf("too many visits or payments: %+v", r)
	}
	weight := uint64(0)
	for _, a := range r.Assigned {
		x := w.of(a.Index)
		w.assignments++
		x.assigned, x.exit, x.weight = w.assignments, a.Epoch, before.Validators[a.Index].Balance
		weight += x.weight
		if a.Class != x.class || a.Epoch != r.Epoch+1 {
			w.t.Fatalf("%+v for %+v in %+v", a, x, r)
		}
	}
	// The limit is at most that for the active stake before the tick.
	if most := before.Carry + max(w.c.MinChurn, before.Active/w.c.Quotient); weight > most {
		w.t.Fatalf("the weight %d is assigned, and %d is the limit: %+v", weight, most, r)
	}
	for _, p := range r.Payments {
		w.paid += p.Amount
		if p.Full {
			x := w.of(p.Index)
			x.payments++
			x.paid, x.amount = r.Epoch, p.Amount
		}
	}
}

// overtaken is the weight of the forced exits that were accepted later and assigned earlier.
func (w *watch) overtaken(x *request) uint64 {
	sum := uint64(0)
	for _, y := range w.requests {
		if y.class == api.Forced && y.accepted > x.accepted && y.assigned < x.assigned {
			sum += y.weight
		}
	}
	return sum
}

// expectPromises checks the exits after all of them were paid. It returns how many deadlines were kept, and how many in their last epoch.
func (w *watch) expectPromises() (int, int) {
	kept, just := 0, 0
	for _, x := range w.requests {
		text := fmt.Sprintf("%+v with %+v", *x, w.c)
		if x.payments != 1 || x.assigned < 0 {
			w.t.Fatalf("not assigned, or not paid once: %s", text)
		}
		if x.paid < x.exit+w.c.Unbonding || x.slashed >= 0 && x.paid < x.slashed+w.c.SlashDelay {
			w.t.Fatalf("paid too early: %s", text)
		}
		if x.slashed < 0 {
			if x.amount != x.weight {
				w.t.Fatalf("the balance is not the payment: %s", text)
			}
			if w.overtaken(x) <= w.c.ForcedCap {
				if x.paid > x.deadline {
					w.t.Fatalf("late: %s", text)
				}
				kept++
				if x.paid == x.deadline {
					just++
				}
			}
		}
		for _, y := range w.requests {
			if y.class == x.class && y.accepted < x.accepted && y.assigned > x.assigned {
				w.t.Fatalf("assigned before %+v: %s", *y, text)
			}
		}
	}
	return kept, just
}

// P4 to P8: what is promised for all exits.
func TestPromises(t *testing.T) {
	source := rand.New(rand.NewSource(4))
	kept, just := 0, 0
	for n := range 2500 {
		c := randomConfig(source)
		if n%20 == 0 {
			c = config.Default()
		}
		w := &watch{t: t, c: c, e: start(t, c)}
		for range 150 {
			w.apply(randomOp(source, c, len(w.e.Snapshot().Validators)))
		}
		w.drain()
		a, b := w.expectPromises()
		kept, just = kept+a, just+b
	}
	// Otherwise the deadlines would not be tested.
	if kept < 1000 || just < 10 {
		t.Error(kept, just)
	}
}

// drain ticks until all exits are paid.
func (w *watch) drain() {
	for range 20000 {
		waiting := false
		for _, x := range w.requests {
			waiting = waiting || x.payments == 0
		}
		if !waiting {
			return
		}
		w.apply(api.Op{Kind: api.Tick})
	}
	w.t.Fatalf("exits are not paid: %+v", w.e.Snapshot())
}
