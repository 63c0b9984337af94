package engine_test

import (
	"math"
	"reflect"
	"slices"
	"strings"
	"sync"
	"testing"

	"egress/api"
	"egress/config"
	"egress/engine"
	"egress/partial"
	"egress/receipt"
	"egress/script"
)

const top = math.MaxUint64

// noIndices are numbers that are no index of a validator in these tests; the least bits of some of them look like one.
var noIndices = []int{math.MinInt, math.MinInt + 1, -1 << 32, -1<<32 + 1, -2, -1, 4096, 1 << 16, 1 << 32, 1<<32 + 1, 1 << 62, math.MaxInt - 1, math.MaxInt}

// changed is the default configuration after changes.
func changed(t *testing.T, change func(c *api.Config)) api.Config {
	t.Helper()
	c := config.Default()
	change(&c)
	if !config.Valid(c) {
		t.Fatalf("field %d of a configuration is not valid", config.Check(c))
	}
	return c
}

func start(t *testing.T, c api.Config) *engine.Engine {
	t.Helper()
	e, code := engine.New(c)
	if e == nil || code != api.OK {
		t.Fatalf("New(%+v) = %v, %d", c, e, code)
	}
	return e
}

// play applies the operations of lines like "exit 0: exit ok 0 by 8", and compares their receipts with what follows the colon. "5 ticks" stands for so many ticks, the last of which has the receipt.
func play(t *testing.T, e *engine.Engine, lines ...string) {
	t.Helper()
	for _, line := range lines {
		first, want, _ := strings.Cut(line, ": ")
		l := script.Read(first)
		if count, ok := strings.CutSuffix(first, " ticks"); ok {
			o, valid := script.Parse("deposit " + count)
			if !valid {
				t.Fatal(line)
			}
			l = script.Ticks(int(o.Amount))
		}
		r := e.Run(l...)
		if got := receipt.Format(r[len(r)-1]); got != want {
			t.Errorf("%s: %s; want %s", first, got, want)
		}
	}
}

// funded is an engine with active validators that have these balances, in block 4 of epoch 1. The churn of the configuration has to suffice to activate them at one boundary.
func funded(t *testing.T, c api.Config, balances ...uint64) *engine.Engine {
	t.Helper()
	e := start(t, c)
	for i, balance := range balances {
		if r := e.Apply(api.Op{Kind: api.Deposit, Amount: balance}); r.Code != api.OK || r.Index != i {
			t.Fatal(r)
		}
	}
	e.Run(script.Ticks(4)...)
	expectStates(t, e, slices.Repeat([]int{api.Active}, len(balances))...)
	return e
}

// rich is a configuration that activates all validators at one boundary.
func rich(t *testing.T) api.Config {
	t.Helper()
	return changed(t, func(c *api.Config) { c.MinChurn = 1024 })
}

func expectStates(t *testing.T, e *engine.Engine, want ...int) {
	t.Helper()
	var got []int
	for _, v := range e.Snapshot().Validators {
		got = append(got, v.Status)
	}
	if !slices.Equal(got, want) {
		t.Fatalf("states %v; want %v", got, want)
	}
}

// same reports whether two snapshots are equal; a nil slice is equal to an empty one.
func same(a, b engine.Snapshot) bool {
	return slices.Equal(a.Validators, b.Validators) &&
		slices.Equal(a.Pending, b.Pending) && slices.Equal(a.Forced, b.Forced) && slices.Equal(a.Voluntary, b.Voluntary) &&
		slices.Equal(a.Merges, b.Merges) && slices.Equal(a.Partials, b.Partials) &&
		reflect.DeepEqual(plain(a), plain(b))
}

// plain is a snapshot without its lists.
func plain(s engine.Snapshot) engine.Snapshot {
	s.Validators, s.Pending, s.Forced, s.Voluntary, s.Merges, s.Partials = nil, nil, nil, nil, nil, nil
	return s
}

func expectSnapshot(t *testing.T, e *engine.Engine, want engine.Snapshot) {
	t.Helper()
	if got := e.Snapshot(); !same(got, want) {
		t.Fatalf("snapshot %+v; want %+v", got, want)
	}
}

// expectRejected applies an operation and compares its receipt with that of chapter 21; the snapshot has to stay the same.
func expectRejected(t *testing.T, e *engine.Engine, o api.Op, code api.Errno) {
	t.Helper()
	before := e.Snapshot()
	want := api.Receipt{Kind: o.Kind, Code: code, Index: -1, Block: before.Block, Epoch: before.Epoch, Deadline: -1}
	if got := e.Apply(o); !receipt.Same(got, want) {
		t.Errorf("Apply(%+v) = %+v; want %+v", o, got, want)
	}
	expectSnapshot(t, e, before)
}

// P22.1: New accepts exactly the valid configurations, and Config returns them.
func TestNew(t *testing.T) {
	d := config.Default()
	for field := 1; field <= 20; field++ {
		for _, value := range []uint64{0, 1, 2, 3, 5, 17, 4096, 4097, 1 << 20, 1<<20 + 1, 1 << 31, 1 << 32, 1<<32 + 1, 1 << 60, 1<<60 + 1, top} {
			c, ok := config.Set(d, field, value)
			if !ok {
				continue
			}
			e, code := engine.New(c)
			if config.Valid(c) {
				if e == nil || code != api.OK || e.Config() != c {
					t.Errorf("New(%+v) = %v, %d, with the configuration %+v", c, e, code, e.Config())
				}
			} else if e != nil || code != api.ErrConfig {
				t.Errorf("New(%+v) = %v, %d; want ErrConfig", c, e, code)
			}
		}
	}
	for _, c := range []api.Config{{}, {Capacity: -1}, changedFields(d, -1), changedFields(d, math.MinInt), changedFields(d, math.MaxInt)} {
		if e, code := engine.New(c); e != nil || code != api.ErrConfig {
			t.Errorf("New(%+v) = %v, %d; want ErrConfig", c, e, code)
		}
	}
	e := start(t, d)
	expectSnapshot(t, e, engine.Snapshot{})
	c := e.Config()
	c.Capacity, c.EpochLen = 1, 1
	if e.Config() != d {
		t.Error("the configuration has changed")
	}
}

// changedFields is a configuration with another number of elements.
func changedFields(c api.Config, n int) api.Config {
	c.Capacity, c.QueueSize, c.RingLen, c.EpochLen = n, n, n, n
	return c
}

func TestNil(t *testing.T) {
	var e *engine.Engine
	var l []api.Op
	for _, kind := range []int{math.MinInt, -1, 0, 1, 2, 3, 4, 5, 6, 7, 8, math.MaxInt} {
		l = append(l, api.Op{Kind: kind, Index: 1, Target: 2, Amount: 32})
	}
	receipts := e.Run(l...)
	if len(receipts) != len(l) {
		t.Fatal(receipts)
	}
	for i, o := range l {
		want := api.Receipt{Kind: o.Kind, Code: api.ErrNil, Index: -1, Deadline: -1}
		if got := e.Apply(o); !receipt.Same(got, want) || !receipt.Same(receipts[i], want) {
			t.Errorf("Apply(%+v) = %+v, Run %+v; want %+v", o, got, receipts[i], want)
		}
	}
	if r := e.Run(); len(r) != 0 {
		t.Error(r)
	}
	expectSnapshot(t, e, engine.Snapshot{})
	if v, ok := e.Get(0); v != (api.Validator{}) || ok {
		t.Error(v, ok)
	}
	if c := e.Config(); c != (api.Config{}) {
		t.Error(c)
	}
}

// The example of the chapter.
func TestExample(t *testing.T) {
	e := start(t, config.Default())
	play(t, e, "deposit 32: deposit ok 0", "4 ticks: tick block 4 epoch 1 visits 1")
	expectStates(t, e, api.Active)
	play(t, e, "exit 0: exit ok 0 by 8", "4 ticks: tick block 8 epoch 2 visits 1 0v@3")
	expectStates(t, e, api.Exiting)
	play(t, e, "4 ticks: tick block 12 epoch 3 visits 1")
	expectStates(t, e, api.Unbonding)
	play(t, e, "7 ticks: tick block 19 epoch 4 visits 1")
	expectStates(t, e, api.Unbonding)
	play(t, e, "tick: tick block 20 epoch 5 visits 1 0+32!")
	expectStates(t, e, api.Paid)
	expectSnapshot(t, e, engine.Snapshot{
		Block: 20, Epoch: 5, Deposited: 32, Paid: 32,
		Validators: []api.Validator{{Status: api.Paid, Request: 1, Exit: 3, Withdraw: 5, Deadline: 8}},
	})
}

func TestKinds(t *testing.T) {
	e := funded(t, rich(t), 32, 32)
	for _, kind := range []int{math.MinInt, -1 << 32, -7, -1, 0, 8, 9, 256 + 1, 1<<32 + 1, 1<<32 + 7, math.MaxInt} {
		expectRejected(t, e, api.Op{Kind: kind, Index: 0, Target: 1, Amount: 32}, api.ErrOp)
	}
	for _, n := range noIndices {
		expectRejected(t, e, api.Op{Kind: api.Exit, Index: n}, api.ErrIndex)
		expectRejected(t, e, api.Op{Kind: api.Eject, Index: n}, api.ErrIndex)
		expectRejected(t, e, api.Op{Kind: api.Slash, Index: n}, api.ErrIndex)
		expectRejected(t, e, api.Op{Kind: api.Consolidate, Index: n, Target: 1}, api.ErrIndex)
		expectRejected(t, e, api.Op{Kind: api.Consolidate, Index: 1, Target: n}, api.ErrIndex)
		expectRejected(t, e, api.Op{Kind: api.Consolidate, Index: n, Target: n}, api.ErrIndex)
		expectRejected(t, e, api.Op{Kind: api.Partial, Index: n, Amount: 1}, api.ErrIndex)
		expectRejected(t, e, api.Op{Kind: api.Partial, Index: n}, api.ErrIndex)
		if v, ok := e.Get(n); v != (api.Validator{}) || ok {
			t.Error(n, v, ok)
		}
	}
}

// Fields that are not operands do not matter.
func TestOtherFields(t *testing.T) {
	for _, n := range append([]int{0, 1, 2}, noIndices...) {
		e, amount := funded(t, rich(t), 32, 32, 32, 32, 20), uint64(n)
		want := engine.Snapshot{
			Block: 5, Epoch: 1, Deposited: 180, Active: 137, Burned: 8, Paid: 3, Cursor: 5,
			Validators: []api.Validator{
				{Balance: 32, Status: api.Exiting, Request: 1, Exit: -1, Withdraw: -1, Deadline: 1 + 1 + 1 + 2 + 1},
				{Balance: 32, Status: api.Exiting, Request: 1, Exit: -1, Withdraw: -1, Deadline: 6},
				{Balance: 24, Status: api.Exiting, Slashed: true, Request: 1, Exit: -1, Withdraw: 6, Deadline: -1},
				{Balance: 29, Status: api.Active, Request: -1, Exit: -1, Withdraw: -1, Deadline: -1},
				{Balance: 20, Status: api.Active, Request: -1, Exit: -1, Withdraw: -1, Deadline: -1},
				{Balance: 32, Status: api.Pending, Request: -1, Exit: -1, Withdraw: -1, Deadline: -1},
			},
			Pending: []int{5}, Forced: []int{1, 2}, Voluntary: []int{0}, Merges: [][2]int{{3, 4}},
		}
		for _, o := range []api.Op{
			{Kind: api.Deposit, Amount: 32, Index: n, Target: n},
			{Kind: api.Exit, Index: 0, Target: n, Amount: amount},
			{Kind: api.Eject, Index: 1, Target: n, Amount: amount},
			{Kind: api.Slash, Index: 2, Target: n, Amount: amount},
			{Kind: api.Consolidate, Index: 3, Target: 4, Amount: amount},
			{Kind: api.Partial, Index: 3, Amount: 3, Target: n},
			{Kind: api.Tick, Index: n, Target: n, Amount: amount},
		} {
			if r := e.Apply(o); r.Code != api.OK {
				t.Errorf("%+v: %+v", o, r)
			}
		}
		expectSnapshot(t, e, want)
	}
}

func TestDeposit(t *testing.T) {
	c := changed(t, func(c *api.Config) { c.Capacity, c.QueueSize, c.SupplyCap, c.MaxBalance = 4, 2, 150, 150 })
	e := start(t, c)
	for _, amount := range []uint64{0, 1, 15, 65, 1<<32 + 16, 1 << 63, top} {
		expectRejected(t, e, api.Op{Kind: api.Deposit, Amount: amount}, api.ErrAmount)
	}
	play(t, e, "deposit 16: deposit ok 0", "deposit 64: deposit ok 1")
	expectSnapshot(t, e, engine.Snapshot{
		Deposited: 80, Pending: []int{0, 1},
		Validators: []api.Validator{
			{Balance: 16, Status: api.Pending, Request: -1, Exit: -1, Withdraw: -1, Deadline: -1},
			{Balance: 64, Status: api.Pending, Request: -1, Exit: -1, Withdraw: -1, Deadline: -1},
		},
	})
	play(t, e, "deposit 15: deposit error 3", "deposit 16: deposit error 6", "deposit 64: deposit error 6", "4 ticks: tick block 4 epoch 1 visits 2")
	// The limit of 32 activates only the first one, as both have the weight 80.
	play(t, e, "deposit 64: deposit ok 2", "deposit 64: deposit error 6", "8 ticks: tick block 12 epoch 3 visits 3")
	expectStates(t, e, api.Active, api.Active, api.Active)
	play(t, e, "deposit 16: deposit error 4", "deposit 15: deposit error 3", "deposit 65: deposit error 3")
	play(t, e, "partial 1 10: partial ok 1", "deposit 16: deposit error 4", "tick: tick block 13 epoch 3 visits 4 1+10")
	play(t, e, "deposit 17: deposit error 4", "deposit 16: deposit ok 3", "deposit 16: deposit error 5", "deposit 15: deposit error 3", "deposit 64: deposit error 5")
}

// The registry and the queue are full, and the supply cap is reached.
func TestDepositOrder(t *testing.T) {
	for _, test := range []struct {
		capacity, queue int
		code            api.Errno
	}{{2, 2, api.ErrFull}, {3, 2, api.ErrQueue}, {2, 3, api.ErrFull}, {3, 3, api.ErrSupply}} {
		e := start(t, changed(t, func(c *api.Config) {
			c.Capacity, c.QueueSize, c.SupplyCap, c.MaxBalance = test.capacity, test.queue, 128, 128
		}))
		play(t, e, "deposit 64: deposit ok 0", "deposit 64: deposit ok 1")
		expectRejected(t, e, api.Op{Kind: api.Deposit, Amount: 16}, test.code)
		expectRejected(t, e, api.Op{Kind: api.Deposit, Amount: 65}, api.ErrAmount)
	}
}

// huge is a configuration in which a single validator may have the greatest amount.
func huge(t *testing.T) api.Config {
	t.Helper()
	return changed(t, func(c *api.Config) {
		c.MinDeposit, c.MaxDeposit, c.MaxBalance, c.SupplyCap = 1, api.MaxAmount, api.MaxAmount, api.MaxAmount
		c.MinBalance, c.MinChurn, c.ForcedCap, c.Capacity = 1, api.MaxAmount, api.MaxAmount, 4096
		c.EpochLen, c.Visits = 1, 4096
	})
}

// The deposits are limited by the supply cap at any time, and by the greatest amount altogether.
func TestDepositOverflow(t *testing.T) {
	e := start(t, huge(t))
	for i := range 15 {
		if r := e.Apply(api.Op{Kind: api.Deposit, Amount: api.MaxAmount}); r.Code != api.OK || r.Index != i {
			t.Fatal(r)
		}
		expectRejected(t, e, api.Op{Kind: api.Deposit, Amount: 1}, api.ErrSupply)
		e.Apply(api.Op{Kind: api.Tick})
		e.Apply(api.Op{Kind: api.Exit, Index: i})
		r := e.Run(script.Ticks(4)...)
		if p := r[3].Payments; len(p) != 1 || p[0] != (api.Payment{Index: i, Amount: api.MaxAmount, Full: true}) {
			t.Fatal(r)
		}
	}
	expectRejected(t, e, api.Op{Kind: api.Deposit, Amount: api.MaxAmount}, api.ErrOverflow)
	if r := e.Apply(api.Op{Kind: api.Deposit, Amount: api.MaxAmount - 1}); r.Code != api.OK || r.Index != 15 {
		t.Fatal(r)
	}
	// The supply leaves room for 1, but the sum does not.
	expectRejected(t, e, api.Op{Kind: api.Deposit, Amount: 1}, api.ErrOverflow)
	expectRejected(t, e, api.Op{Kind: api.Deposit, Amount: 2}, api.ErrSupply)
	if s := e.Snapshot(); s.Deposited != top || s.Paid != 15*api.MaxAmount {
		t.Error(s)
	}
}

func TestExitErrors(t *testing.T) {
	for class, kind := range []int{api.Eject, api.Exit} {
		c := changed(t, func(c *api.Config) { c.QueueSize, c.MinChurn = 3, 64 })
		e := start(t, c)
		play(t, e, "deposit 16: deposit ok 0", "deposit 16: deposit ok 1", "deposit 16: deposit ok 2", "4 ticks: tick block 4 epoch 1 visits 3")
		play(t, e, "deposit 16: deposit ok 3", "deposit 64: deposit ok 4", "4 ticks: tick block 8 epoch 2 visits 5")
		expectStates(t, e, api.Active, api.Active, api.Active, api.Active, api.Pending)
		expectRejected(t, e, api.Op{Kind: kind, Index: 4}, api.ErrStatus)
		for i := range 3 {
			if r := e.Apply(api.Op{Kind: kind, Index: i}); r.Code != api.OK || r.Index != i {
				t.Error(r)
			}
			expectRejected(t, e, api.Op{Kind: kind, Index: i}, api.ErrStatus)
		}
		// The status is checked before the queue, and an index before both.
		expectRejected(t, e, api.Op{Kind: kind, Index: 3}, api.ErrQueue)
		expectRejected(t, e, api.Op{Kind: kind, Index: 4}, api.ErrStatus)
		expectRejected(t, e, api.Op{Kind: kind, Index: 5}, api.ErrIndex)
		// The other queue is not full.
		other := api.Eject + api.Exit - kind
		if r := e.Apply(api.Op{Kind: other, Index: 3}); r.Code != api.OK || r.Index != 3 {
			t.Error(r)
		}
		if s := e.Snapshot(); class == api.Forced && (!slices.Equal(s.Forced, []int{0, 1, 2}) || !slices.Equal(s.Voluntary, []int{3})) ||
			class == api.Voluntary && (!slices.Equal(s.Voluntary, []int{0, 1, 2}) || !slices.Equal(s.Forced, []int{3})) {
			t.Error(s)
		}
	}
}

// A deadline depends on the exits that are processed before, which are other ones for each class.
func TestDeadlines(t *testing.T) {
	c := changed(t, func(c *api.Config) { c.Quotient = 1 }) // The limit is at least the active stake.
	e := start(t, c)
	play(t, e,
		"deposit 20: deposit ok 0", "4 ticks: tick block 4 epoch 1 visits 1",
		"deposit 64: deposit ok 1", "4 ticks: tick block 8 epoch 2 visits 2",
		"deposit 60: deposit ok 2", "4 ticks: tick block 12 epoch 3 visits 3",
		"deposit 50: deposit ok 3", "4 ticks: tick block 16 epoch 4 visits 4",
		"deposit 17: deposit ok 4", "4 ticks: tick block 20 epoch 5 visits 5")
	expectStates(t, e, api.Active, api.Active, api.Active, api.Active, api.Active)
	play(t, e,
		"exit 0: exit ok 0 by 12",   // 20 + 64 take 3 boundaries, and an exit 1 + 2 + 1 epochs more.
		"exit 1: exit ok 1 by 14",   // 20 + 64 + 64: 5
		"eject 2: eject ok 2 by 13", // 60 + 64: 4
		"eject 3: eject ok 3 by 15", // 60 + 50 + 64: 6
		"exit 4: exit ok 4 by 18",   // 60 + 50 + 20 + 64 + 17 + 64: 9
		"4 ticks: tick block 24 epoch 6 visits 5 2f@7 3f@7 0v@7 1v@7 4v@7",
	)
}

// The deadline is at most the greatest epoch.
func TestDeadlineOverflow(t *testing.T) {
	c := changed(t, func(c *api.Config) { c.MinChurn, c.ForcedCap = 1, api.MaxEpoch-1-1-2-1-32 })
	e := start(t, c)
	play(t, e,
		"deposit 32: deposit ok 0", "deposit 32: deposit ok 1", "deposit 33: deposit ok 2", "deposit 31: deposit ok 3",
		"4 ticks: tick block 4 epoch 1 visits 4")
	expectStates(t, e, api.Active, api.Pending, api.Pending, api.Pending)
	play(t, e, "exit 0: exit ok 0 by 1099511627776")
	c.ForcedCap -= 3 // One epoch less for each of the epochs 2, 3 and 4.
	e = start(t, c)
	play(t, e,
		"deposit 32: deposit ok 0", "deposit 32: deposit ok 1", "deposit 33: deposit ok 2", "deposit 31: deposit ok 3",
		"16 ticks: tick block 16 epoch 4 visits 4")
	expectStates(t, e, api.Active, api.Active, api.Active, api.Active)
	expectRejected(t, e, api.Op{Kind: api.Exit, Index: 2}, api.ErrOverflow)
	expectRejected(t, e, api.Op{Kind: api.Eject, Index: 2}, api.ErrOverflow)
	play(t, e, "exit 0: exit ok 0 by 1099511627776")
	// Exits that are processed before it make it later: forced exits for both classes, voluntary ones only for a voluntary one.
	expectRejected(t, e, api.Op{Kind: api.Exit, Index: 3}, api.ErrOverflow)
	play(t, e, "eject 3: eject ok 3 by 1099511627775", "eject 1: eject error 10", "exit 1: exit error 10", "slash 1: slash ok 1")
	c.ForcedCap = api.MaxAmount
	e = start(t, c)
	play(t, e, "deposit 32: deposit ok 0", "4 ticks: tick block 4 epoch 1 visits 1", "exit 0: exit error 10", "eject 0: eject error 10", "exit 1: exit error 7")
}

// A queue that is full is reported before a deadline that is too late.
func TestExitOrder(t *testing.T) {
	e := start(t, changed(t, func(c *api.Config) { c.MinChurn, c.ForcedCap, c.QueueSize = 1, api.MaxEpoch-1-1-2-1-32-1, 1 }))
	play(t, e, "deposit 32: deposit ok 0", "4 ticks: tick block 4 epoch 1 visits 1", "deposit 64: deposit ok 1", "4 ticks: tick block 8 epoch 2 visits 2",
		"exit 1: exit error 10", "eject 1: eject error 10", "exit 0: exit ok 0 by 1099511627776", "exit 1: exit error 6", "eject 1: eject error 10",
		"slash 1: slash ok 1", "eject 1: eject error 8", "exit 1: exit error 8")
}

// An active or exiting validator that is slashed exits as a forced one, or stays where it is in its queue.
func TestSlashInQueues(t *testing.T) {
	e := funded(t, rich(t), 50, 50, 50)
	play(t, e, "slash 0: slash ok 0", "slash 0: slash error 9", "exit 1: exit ok 1 by 6", "eject 2: eject ok 2 by 6", "4 ticks: tick block 8 epoch 2 visits 3 0f@3 2f@3 1v@3")
	e = funded(t, rich(t), 50, 50, 50)
	play(t, e, "exit 1: exit ok 1 by 6", "eject 2: eject ok 2 by 6", "slash 1: slash ok 1", "slash 0: slash ok 0", "slash 2: slash ok 2")
	slashed := api.Validator{Balance: 38, Status: api.Exiting, Slashed: true, Request: 1, Exit: -1, Withdraw: 6, Deadline: -1}
	expectSnapshot(t, e, engine.Snapshot{
		Block: 4, Epoch: 1, Deposited: 150, Burned: 36, Active: 114,
		Validators: []api.Validator{slashed, slashed, slashed}, Forced: []int{2, 0}, Voluntary: []int{1},
	})
	play(t, e, "4 ticks: tick block 8 epoch 2 visits 3 2f@3 0f@3 1v@3", "slash 0: slash error 9")
	// The exit epoch plus Unbonding is 5, but the balances are held longer.
	slashed.Exit = 3
	expectSnapshot(t, e, engine.Snapshot{
		Block: 8, Epoch: 2, Deposited: 150, Burned: 36, Active: 114, Validators: []api.Validator{slashed, slashed, slashed}, Unbonding: 3,
	})
	play(t, e, "15 ticks: tick block 23 epoch 5 visits 3", "tick: tick block 24 epoch 6 visits 3 0+38! 1+38! 2+38!")
}

// A validator that is slashed in the unbonding ring is held longer, and may leave before that.
func TestSlashUnbonding(t *testing.T) {
	e := funded(t, rich(t), 50, 50, 50)
	play(t, e, "exit 0: exit ok 0 by 6", "exit 1: exit ok 1 by 6", "4 ticks: tick block 8 epoch 2 visits 3 0v@3 1v@3", "slash 0: slash ok 0")
	expectStates(t, e, api.Exiting, api.Exiting, api.Active)
	play(t, e, "8 ticks: tick block 16 epoch 4 visits 3", "slash 1: slash ok 1", "slash 1: slash error 9")
	expectSnapshot(t, e, engine.Snapshot{
		Block: 16, Epoch: 4, Deposited: 150, Burned: 24, Active: 50, Unbonding: 2,
		Validators: []api.Validator{
			{Balance: 38, Status: api.Unbonding, Slashed: true, Request: 1, Exit: 3, Withdraw: 7, Deadline: -1},
			{Balance: 38, Status: api.Unbonding, Slashed: true, Request: 1, Exit: 3, Withdraw: 9, Deadline: -1},
			{Balance: 50, Status: api.Active, Request: -1, Exit: -1, Withdraw: -1, Deadline: -1},
		},
	})
	play(t, e,
		"4 ticks: tick block 20 epoch 5 visits 3", "7 ticks: tick block 27 epoch 6 visits 3", "tick: tick block 28 epoch 7 visits 3 0+38!",
		"slash 0: slash error 9", "7 ticks: tick block 35 epoch 8 visits 3", "tick: tick block 36 epoch 9 visits 3 1+38!")
}

// A withdrawable validator that is slashed is held again.
func TestSlashWithdrawable(t *testing.T) {
	c := changed(t, func(c *api.Config) { c.MinChurn, c.Payments, c.Visits, c.Partials = 1024, 1, 1, 0 })
	e := funded(t, c, 50, 50)
	play(t, e, "exit 0: exit ok 0 by 8", "exit 1: exit ok 1 by 8", "15 ticks: tick block 19 epoch 4 visits 1", "tick: tick block 20 epoch 5 visits 1 1+50!")
	expectStates(t, e, api.Withdrawable, api.Paid)
	play(t, e, "slash 1: slash error 8", "slash 0: slash ok 0", "slash 0: slash error 9")
	expectSnapshot(t, e, engine.Snapshot{
		Block: 20, Epoch: 5, Deposited: 100, Paid: 50, Burned: 12, Unbonding: 1,
		Validators: []api.Validator{
			{Balance: 38, Status: api.Unbonding, Slashed: true, Request: 1, Exit: 3, Withdraw: 10, Deadline: -1},
			{Status: api.Paid, Request: 1, Exit: 3, Withdraw: 5, Deadline: 8},
		},
	})
	play(t, e, "19 ticks: tick block 39 epoch 9 visits 1", "tick: tick block 40 epoch 10 visits 1", "tick: tick block 41 epoch 10 visits 1 0+38!")
}

// Each other status is an error, and the queue of forced exits matters only for an active validator.
func TestSlashErrors(t *testing.T) {
	c := changed(t, func(c *api.Config) { c.QueueSize, c.MinChurn, c.ForcedCap = 2, 60, 0 })
	e := start(t, c)
	play(t, e, "deposit 30: deposit ok 0", "deposit 30: deposit ok 1", "slash 0: slash error 8", "4 ticks: tick block 4 epoch 1 visits 2",
		"deposit 30: deposit ok 2", "deposit 30: deposit ok 3", "4 ticks: tick block 8 epoch 2 visits 4", "deposit 30: deposit ok 4")
	expectStates(t, e, api.Active, api.Active, api.Active, api.Active, api.Pending)
	play(t, e, "slash 0: slash ok 0", "eject 1: eject ok 1 by 7", "slash 2: slash error 6", "slash 0: slash error 9", "slash 4: slash error 8", "slash 5: slash error 7",
		"slash 1: slash ok 1", "exit 2: exit ok 2 by 8", "slash 2: slash ok 2", "consolidate 3 3: consolidate error 12", "slash 3: slash error 6")
	// All but the last one leave, which merges with a new one.
	play(t, e, "4 ticks: tick block 12 epoch 3 visits 5 0f@4 1f@4", "consolidate 4 3: consolidate ok 4", "4 ticks: tick block 16 epoch 4 visits 5 2v@5")
	expectStates(t, e, api.Unbonding, api.Unbonding, api.Exiting, api.Active, api.Merged)
	play(t, e, "slash 4: slash error 8", "slash 3: slash ok 3", "slash 3: slash error 9")
}

// All of a balance, or nothing, may be the penalty.
func TestPenalties(t *testing.T) {
	e := funded(t, changed(t, func(c *api.Config) { c.MinChurn, c.PenaltyNum, c.PenaltyDen = 1024, 7, 7 }), 50, 64)
	play(t, e, "slash 1: slash ok 1", "exit 0: exit ok 0 by 6", "16 ticks: tick block 20 epoch 5 visits 2 0+50!", "4 ticks: tick block 24 epoch 6 visits 2 1+0!")
	e = funded(t, changed(t, func(c *api.Config) { c.MinChurn, c.PenaltyNum, c.PenaltyDen = 1024, 0, 7 }), 50, 64)
	play(t, e, "slash 1: slash ok 1", "exit 0: exit ok 0 by 6", "16 ticks: tick block 20 epoch 5 visits 2 0+50!", "4 ticks: tick block 24 epoch 6 visits 2 1+64!")
}

func TestConsolidate(t *testing.T) {
	c := changed(t, func(c *api.Config) { c.MinChurn, c.QueueSize = 1024, 5 })
	e := funded(t, c, 64, 64, 30, 30, 30)
	play(t, e, "deposit 16: deposit ok 5", "exit 4: exit ok 4 by 6",
		"consolidate 0 5: consolidate error 8", "consolidate 5 0: consolidate error 8", "consolidate 0 4: consolidate error 8", "consolidate 4 4: consolidate error 12",
		"consolidate 5 5: consolidate error 12", "consolidate 6 6: consolidate error 7", "consolidate 0 6: consolidate error 7", "consolidate 6 0: consolidate error 7",
		"consolidate 0 1: consolidate ok 0", "consolidate 2 1: consolidate ok 2", "consolidate 2 3: consolidate ok 2", "consolidate 3 2: consolidate ok 3")
	want := []api.Validator{e.Snapshot().Validators[0], e.Snapshot().Validators[2]}
	play(t, e, "3 ticks: tick block 7 epoch 1 visits 6")
	if s := e.Snapshot(); !slices.Equal(s.Merges, [][2]int{{0, 1}, {2, 1}, {2, 3}, {3, 2}}) || s.Validators[0] != want[0] {
		t.Error(s)
	}
	// The first two pairs are removed; the second one would make the balance too large then.
	play(t, e, "tick: tick block 8 epoch 2 visits 6 4v@3")
	expectStates(t, e, api.Merged, api.Active, api.Active, api.Active, api.Exiting, api.Active)
	if s := e.Snapshot(); !slices.Equal(s.Merges, [][2]int{{2, 3}, {3, 2}}) || s.Validators[0].Balance != 0 || s.Validators[1].Balance != 128 || s.Active != 234 || s.Deposited != 234 {
		t.Error(s)
	}
	play(t, e, "consolidate 1 5: consolidate error 3", "consolidate 0 5: consolidate error 8", "consolidate 5 0: consolidate error 8",
		"consolidate 2 3: consolidate ok 2", "consolidate 2 3: consolidate ok 2", "consolidate 2 3: consolidate ok 2", "consolidate 2 3: consolidate error 6", "consolidate 1 5: consolidate error 3")
	// An exit is accepted although the consolidation waits, which is skipped then.
	play(t, e, "exit 2: exit ok 2 by 7", "4 ticks: tick block 12 epoch 3 visits 6 2v@4")
	expectStates(t, e, api.Merged, api.Active, api.Exiting, api.Active, api.Unbonding, api.Active)
	if s := e.Snapshot(); !slices.Equal(s.Merges, slices.Repeat([][2]int{{2, 3}}, 3)) || s.Validators[3].Balance != 30 {
		t.Error(s)
	}
}

// Without Merges or Partials, requests wait for ever.
func TestNoRequests(t *testing.T) {
	e := funded(t, changed(t, func(c *api.Config) { c.MinChurn, c.QueueSize, c.Merges, c.Partials = 1024, 2, 0, 0 }), 30, 30)
	play(t, e, "consolidate 0 1: consolidate ok 0", "partial 0 5: partial ok 0", "40 ticks: tick block 44 epoch 11 visits 2",
		"consolidate 1 0: consolidate ok 1", "partial 1 5: partial ok 1", "40 ticks: tick block 84 epoch 21 visits 2",
		"consolidate 0 1: consolidate error 6", "partial 0 5: partial error 6")
	expectStates(t, e, api.Active, api.Active)
	if s := e.Snapshot(); s.Paid != 0 || !slices.Equal(s.Merges, [][2]int{{0, 1}, {1, 0}}) || !slices.Equal(s.Partials, []partial.Request{{Index: 0, Amount: 5}, {Index: 1, Amount: 5}}) {
		t.Error(s)
	}
}

func TestPartial(t *testing.T) {
	e := funded(t, changed(t, func(c *api.Config) { c.MinChurn, c.QueueSize = 1024, 5 }), 20, 30, 40)
	play(t, e, "deposit 16: deposit ok 3", "partial 0 0: partial error 3", "partial 4 0: partial error 7", "partial 3 0: partial error 3", "partial 3 1: partial error 8",
		"partial 0 7: partial ok 0", "partial 0 7: partial ok 0", "partial 1 18446744073709551615: partial ok 1", "partial 0 1: partial ok 0", "partial 2 9: partial ok 2",
		"partial 2 9: partial error 6", "partial 3 9: partial error 8", "partial 2 0: partial error 3", "exit 2: exit ok 2 by 6")
	// Two requests are processed in each block; one that pays nothing is a visit, too.
	play(t, e, "tick: tick block 5 epoch 1 visits 6 0+7 0+5")
	if s := e.Snapshot(); !slices.Equal(s.Partials, []partial.Request{{Index: 1, Amount: top}, {Index: 0, Amount: 1}, {Index: 2, Amount: 9}}) || s.Paid != 12 || s.Active != 78 {
		t.Error(s)
	}
	play(t, e, "tick: tick block 6 epoch 1 visits 6 1+22", "tick: tick block 7 epoch 1 visits 5", "tick: tick block 8 epoch 2 visits 4 2v@3")
	if s := e.Snapshot(); len(s.Partials) != 0 || s.Paid != 34 || s.Deposited != 106 || s.Validators[0].Balance != 8 || s.Validators[1].Balance != 8 || s.Validators[2].Balance != 40 {
		t.Error(s)
	}
}

// A slashed validator is not active, and so cannot take a part of its balance.
func TestPartialOfSlashed(t *testing.T) {
	e := funded(t, rich(t), 64, 64)
	play(t, e, "partial 0 9: partial ok 0", "slash 0: slash ok 0", "partial 0 9: partial error 8", "tick: tick block 5 epoch 1 visits 3")
	if s := e.Snapshot(); s.Paid != 0 || len(s.Partials) != 0 {
		t.Error(s)
	}
}

// The visits and payments of requests are not left for the sweep.
func TestBudgets(t *testing.T) {
	c := changed(t, func(c *api.Config) { c.MinChurn, c.Visits, c.Payments, c.Partials = 1024, 5, 4, 3 })
	e := funded(t, c, 30, 30, 30, 30, 30, 30, 30, 30)
	for i := range 6 {
		if r := e.Apply(api.Op{Kind: api.Exit, Index: i}); r.Code != api.OK || r.Deadline != 1+1+1+2+3 {
			t.Error(r)
		}
	}
	play(t, e, "15 ticks: tick block 19 epoch 4 visits 5", "partial 6 22: partial ok 6", "partial 6 22: partial ok 6", "partial 7 9: partial ok 7")
	if at := e.Snapshot().Cursor; at != 7 {
		t.Error(at)
	}
	// Two visits are left for the sweep, and the second payment of 6 is 0.
	play(t, e, "tick: tick block 20 epoch 5 visits 5 6+22 7+9 0+30!", "partial 7 1: partial ok 7")
	if at := e.Snapshot().Cursor; at != 1 {
		t.Error(at)
	}
	// Three payments are left for the sweep.
	play(t, e, "tick: tick block 21 epoch 5 visits 4 7+1 1+30! 2+30! 3+30!", "tick: tick block 22 epoch 5 visits 5 4+30! 5+30!")
	if s := e.Snapshot(); s.Cursor != 1 || s.Paid != 22+9+1+6*30 || s.Deposited != 240 {
		t.Error(s)
	}
}

// A sweep visits each validator at most once, and none if there are none.
func TestSweep(t *testing.T) {
	c := changed(t, func(c *api.Config) { c.Visits, c.Payments, c.EpochLen, c.MinChurn = 4, 4, 1, 1024 })
	e := start(t, c)
	play(t, e, "3 ticks: tick block 3 epoch 3 visits 0", "deposit 16: deposit ok 0", "deposit 17: deposit ok 1", "deposit 18: deposit ok 2", "tick: tick block 4 epoch 4 visits 3",
		"deposit 19: deposit ok 3", "deposit 20: deposit ok 4", "tick: tick block 5 epoch 5 visits 4")
	if at := e.Snapshot().Cursor; at != 4 {
		t.Error(at)
	}
	play(t, e, "exit 0: exit ok 0 by 16", "exit 2: exit ok 2 by 16", "exit 4: exit ok 4 by 16", "tick: tick block 6 epoch 6 visits 4 0v@7 2v@7 4v@7",
		"2 ticks: tick block 8 epoch 8 visits 4", "tick: tick block 9 epoch 9 visits 4 2+18! 4+20!", "tick: tick block 10 epoch 10 visits 4 0+16!")
}

// Unused churn is carried over as long as an exit waits; forced exits are assigned first.
func TestChurn(t *testing.T) {
	e := funded(t, changed(t, func(c *api.Config) { c.MinChurn, c.Quotient, c.MaxDeposit, c.MaxBalance = 100, 1000, 100, 200 }), 64, 16, 20)
	play(t, e, "deposit 100: deposit ok 3", "4 ticks: tick block 8 epoch 2 visits 4", "deposit 60: deposit ok 4", "deposit 40: deposit ok 5", "deposit 16: deposit ok 6", "4 ticks: tick block 12 epoch 3 visits 6")
	expectStates(t, e, api.Active, api.Active, api.Active, api.Active, api.Active, api.Active, api.Pending)
	play(t, e, "exit 0: exit ok 0 by 9", "exit 3: exit ok 3 by 10", "exit 1: exit ok 1 by 10", "eject 4: eject ok 4 by 9")
	play(t, e, "4 ticks: tick block 16 epoch 4 visits 6 4f@5")
	if s := e.Snapshot(); s.Carry != 40 || !slices.Equal(s.Voluntary, []int{0, 3, 1}) {
		t.Error(s)
	}
	play(t, e, "4 ticks: tick block 20 epoch 5 visits 6 0v@6")
	if s := e.Snapshot(); s.Carry != 76 || s.Unbonding != 2 {
		t.Error(s)
	}
	play(t, e, "eject 2: eject ok 2 by 10", "4 ticks: tick block 24 epoch 6 visits 6 2f@7 3v@7 1v@7")
	if s := e.Snapshot(); s.Carry != 0 || len(s.Forced) != 0 || len(s.Voluntary) != 0 || s.Unbonding != 5 {
		t.Error(s)
	}
}

// One limit holds for exits and activations. It depends on the active stake after those have left whose exit epoch is reached.
func TestLimit(t *testing.T) {
	e := start(t, changed(t, func(c *api.Config) { c.MinChurn, c.Quotient, c.ForcedCap, c.EpochLen, c.MaxDeposit = 1, 2, 0, 1, 100 }))
	play(t, e, "deposit 60: deposit ok 0", "tick: tick block 1 epoch 1 visits 1", "deposit 100: deposit ok 1", "tick: tick block 2 epoch 2 visits 2",
		"deposit 30: deposit ok 2", "deposit 50: deposit ok 3", "deposit 16: deposit ok 4", "tick: tick block 3 epoch 3 visits 5")
	// The limit was 80.
	expectStates(t, e, api.Active, api.Active, api.Active, api.Active, api.Pending)
	play(t, e, "exit 0: exit ok 0 by 73", "tick: tick block 4 epoch 4 visits 5 0v@5")
	expectStates(t, e, api.Exiting, api.Active, api.Active, api.Active, api.Active)
	if s := e.Snapshot(); s.Carry != 0 || s.Active != 256 || s.Unbonding != 1 {
		t.Error(s)
	}
	// A half of 256 would suffice for 100, but a half of 196 does not.
	play(t, e, "exit 1: exit ok 1 by 114", "tick: tick block 5 epoch 5 visits 5")
	expectStates(t, e, api.Unbonding, api.Exiting, api.Active, api.Active, api.Active)
	if s := e.Snapshot(); s.Carry != 98 || s.Active != 196 {
		t.Error(s)
	}
	play(t, e, "tick: tick block 6 epoch 6 visits 5 1v@7")
}

// Consolidations come before the partial withdrawals of the block, and after the assignments of the boundary.
func TestOrderOfSteps(t *testing.T) {
	e := funded(t, rich(t), 50, 50, 40)
	play(t, e, "3 ticks: tick block 7 epoch 1 visits 3", "consolidate 0 1: consolidate ok 0", "partial 0 5: partial ok 0", "partial 1 99: partial ok 1", "tick: tick block 8 epoch 2 visits 5 1+92")
	expectStates(t, e, api.Merged, api.Active, api.Active)
	// An exit is assigned with the balance before.
	c := changed(t, func(c *api.Config) { c.MinChurn, c.EpochLen, c.Capacity = 60, 1, 3 })
	e = start(t, c)
	play(t, e, "deposit 60: deposit ok 0", "deposit 60: deposit ok 1", "deposit 30: deposit ok 2", "3 ticks: tick block 3 epoch 3 visits 3")
	expectStates(t, e, api.Active, api.Active, api.Active)
	play(t, e, "consolidate 0 1: consolidate ok 0", "consolidate 1 2: consolidate ok 1", "eject 2: eject ok 2 by 9", "tick: tick block 4 epoch 4 visits 3 2f@5", "eject 1: eject ok 1 by 12")
	if s := e.Snapshot(); s.Validators[1].Balance != 120 || len(s.Merges) != 0 {
		t.Error(s)
	}
	play(t, e, "tick: tick block 5 epoch 5 visits 3", "tick: tick block 6 epoch 6 visits 3 1f@7", "tick: tick block 7 epoch 7 visits 3 2+30!", "2 ticks: tick block 9 epoch 9 visits 3 1+120!")
}

// P22.3: Get returns the validators of the snapshot.
func TestGet(t *testing.T) {
	e := funded(t, rich(t), 20, 30, 40)
	play(t, e, "exit 1: exit ok 1 by 6", "slash 2: slash ok 2")
	for i, v := range e.Snapshot().Validators {
		if got, ok := e.Get(i); got != v || !ok {
			t.Error(got, ok)
		}
	}
	for _, i := range append(noIndices, 3) {
		if v, ok := e.Get(i); v != (api.Validator{}) || ok {
			t.Error(i, v, ok)
		}
	}
}

// P22.2: Run is Apply for each operation in order.
func TestRun(t *testing.T) {
	l := script.Read("deposit 32\ndeposit 40\nfly\ntick\ntick\ntick\ntick\ntick\ntick\ntick\ntick\nexit 0\npartial 1 7\nexit 0\ntick\neject 1\nslash 1\ndeposit 1")
	a, b := start(t, config.Default()), start(t, config.Default())
	before := slices.Clone(l)
	receipts := a.Run(l[:12]...)
	receipts = append(receipts, a.Run()...)
	receipts = append(receipts, a.Run(l[12:]...)...)
	if !slices.Equal(l, before) {
		t.Error("operations have changed")
	}
	if len(receipts) != len(l) {
		t.Fatal(receipts)
	}
	for i, o := range l {
		if r := b.Apply(o); !receipt.Same(r, receipts[i]) {
			t.Errorf("%+v: %+v and %+v", o, r, receipts[i])
		}
	}
	expectSnapshot(t, a, b.Snapshot())
}

// What the engine has returned may be changed, and does not change with the engine.
func TestMemory(t *testing.T) {
	e := funded(t, rich(t), 20, 30, 40, 50, 60, 64)
	play(t, e, "deposit 16: deposit ok 6", "deposit 16: deposit ok 7", "exit 0: exit ok 0 by 6", "exit 1: exit ok 1 by 6", "eject 2: eject ok 2 by 6", "slash 3: slash ok 3",
		"consolidate 4 5: consolidate ok 4", "consolidate 5 4: consolidate ok 5", "partial 4 1: partial ok 4", "partial 5 1: partial ok 5")
	want, got := e.Snapshot(), e.Snapshot()
	for i := range got.Validators {
		got.Validators[i] = api.Validator{Status: 9, Balance: 1}
	}
	for _, l := range [][]int{got.Pending, got.Forced, got.Voluntary} {
		if len(l) != 2 {
			t.Fatal(got)
		}
		l[0], l[1] = 7, 7
	}
	got.Merges[0], got.Partials[0] = [2]int{7, 7}, partial.Request{Index: 7, Amount: 7}
	expectSnapshot(t, e, want)
	l := e.Run(script.Ticks(4)...)
	l = append(l, e.Run(script.Ticks(20)...)...)
	copies := make([]api.Receipt, len(l))
	for i, r := range l {
		copies[i] = receipt.Clone(r)
	}
	after := e.Snapshot()
	if same(after, want) || same(got, want) || len(l[3].Assigned) != 4 || len(l[0].Payments) != 2 {
		t.Fatal(after, got, l)
	}
	for i := range l {
		for j := range l[i].Assigned {
			l[i].Assigned[j].Index = 9
		}
		_ = append(l[i].Assigned, api.Assignment{Index: 9})
		_ = append(l[i].Payments, api.Payment{Index: 9})
		for j := range l[i].Payments {
			l[i].Payments[j].Amount = 99
		}
		for j := i + 1; j < len(l); j++ {
			if !receipt.Same(l[j], copies[j]) {
				t.Fatal(l[j], copies[j])
			}
		}
	}
	expectSnapshot(t, e, after)
}

// P2: engines are independent of each other, also if they are used at the same time.
func TestIndependent(t *testing.T) {
	l := slices.Concat(script.Read("deposit 32\ndeposit 40\ndeposit 64"), script.Ticks(12), script.Read("exit 0\neject 1\nslash 2"), script.Ticks(40))
	want := start(t, config.Default())
	want.Run(l...)
	var all sync.WaitGroup
	for n := range 8 {
		e := start(t, config.Default())
		all.Go(func() {
			for i, o := range l {
				e.Apply(o)
				if i == n {
					e.Apply(api.Op{Kind: api.Deposit, Amount: 1})
					e.Snapshot()
				}
			}
			if got := e.Snapshot(); !same(got, want.Snapshot()) {
				t.Errorf("snapshot %+v", got)
			}
		})
	}
	all.Wait()
}
