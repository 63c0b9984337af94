package audit_test

import (
	"math"
	"slices"
	"sync"
	"testing"

	"egress/api"
	"egress/audit"
	"egress/config"
	"egress/engine"
	"egress/partial"
)

const top = math.MaxUint64

// sound is a snapshot that violates no rule with the default configuration; its validators have all statuses in all forms.
func sound() engine.Snapshot {
	return engine.Snapshot{
		Block: 18, Epoch: 4,
		Validators: []api.Validator{
			0:  {Balance: 32, Status: api.Pending, Request: -1, Exit: -1, Withdraw: -1, Deadline: -1},
			1:  {Balance: 16, Status: api.Pending, Request: -1, Exit: -1, Withdraw: -1, Deadline: -1},
			2:  {Balance: 40, Status: api.Active, Request: -1, Exit: -1, Withdraw: -1, Deadline: -1},
			3:  {Balance: 20, Status: api.Active, Request: -1, Exit: -1, Withdraw: -1, Deadline: -1},
			4:  {Balance: 30, Status: api.Exiting, Request: 3, Exit: -1, Withdraw: -1, Deadline: 12},
			5:  {Balance: 24, Status: api.Exiting, Slashed: true, Request: 3, Exit: -1, Withdraw: 8, Deadline: -1},
			6:  {Balance: 33, Status: api.Exiting, Request: 4, Exit: -1, Withdraw: -1, Deadline: 14},
			7:  {Balance: 17, Status: api.Exiting, Request: 3, Exit: 5, Withdraw: 7, Deadline: 9},
			8:  {Balance: 21, Status: api.Unbonding, Request: 2, Exit: 4, Withdraw: 6, Deadline: 8},
			9:  {Balance: 12, Status: api.Unbonding, Slashed: true, Request: 1, Exit: 3, Withdraw: 9, Deadline: -1},
			10: {Balance: 50, Status: api.Withdrawable, Request: 0, Exit: 2, Withdraw: 4, Deadline: 7},
			11: {Status: api.Paid, Request: 0, Exit: 2, Withdraw: 4, Deadline: 7},
			12: {Status: api.Paid, Slashed: true, Request: 0, Exit: 2, Withdraw: 5, Deadline: -1},
			13: {Status: api.Merged, Request: -1, Exit: -1, Withdraw: -1, Deadline: -1},
		},
		Deposited: 295 + 100 + 12, Paid: 100, Burned: 12,
		Active:  40 + 20 + 30 + 24 + 33 + 17,
		Pending: []int{1, 0},
		Forced:  []int{5, 4}, Voluntary: []int{6},
		Merges:   [][2]int{{2, 3}},
		Partials: []partial.Request{{Index: 2, Amount: 9}},
		Cursor:   11, Carry: 7, Unbonding: 3,
	}
}

// violation is a change of the sound snapshot, or of its configuration, with the rules that are violated then.
type violation struct {
	name   string
	change func(s *engine.Snapshot, c *api.Config)
	rules  []int
}

func only(rules ...int) []int { return rules }

func expectViolations(t *testing.T, l []violation) {
	t.Helper()
	for _, each := range l {
		t.Run(each.name, func(t *testing.T) {
			s, c := sound(), config.Default()
			each.change(&s, &c)
			expect(t, s, valid(t, c), each.rules...)
		})
	}
}

// validator changes one validator.
func validator(i int, change func(v *api.Validator)) func(*engine.Snapshot, *api.Config) {
	return func(s *engine.Snapshot, c *api.Config) { change(&s.Validators[i]) }
}

// state changes the snapshot alone.
func state(change func(s *engine.Snapshot)) func(*engine.Snapshot, *api.Config) {
	return func(s *engine.Snapshot, c *api.Config) { change(s) }
}

// limits changes the configuration alone.
func limits(change func(c *api.Config)) func(*engine.Snapshot, *api.Config) {
	return func(s *engine.Snapshot, c *api.Config) { change(c) }
}

func TestSound(t *testing.T) {
	expect(t, sound(), config.Default())
	expect(t, engine.Snapshot{}, config.Default())
}

// The example of the chapter.
func TestExample(t *testing.T) {
	e, code := engine.New(config.Default())
	if code != api.OK {
		t.Fatal(code)
	}
	s := e.Snapshot()
	expect(t, s, e.Config())
	s.Deposited = 1
	expect(t, s, e.Config(), 2)
}

// P24.2: there are 12 rules, with the names of the chapter.
func TestNames(t *testing.T) {
	if n := audit.Rules(); n != 12 {
		t.Errorf("Rules() = %d", n)
	}
	for number := 1; number <= 12; number++ {
		if got := audit.Name(number); got != names[number] {
			t.Errorf("Name(%d) = %q; want %q", number, got, names[number])
		}
	}
	for _, number := range []int{0, 13, 14, 24, -1, -2, -12, 256 + 1, 1 << 32, 1<<32 + 1, -1<<32 + 1, math.MinInt, math.MinInt + 1, math.MaxInt} {
		if got := audit.Name(number); got != "" {
			t.Errorf("Name(%d) = %q; want no name", number, got)
		}
	}
}

// P24.1, rule 1: at most Capacity validators.
func TestCapacity(t *testing.T) {
	expectViolations(t, []violation{
		{"as many", limits(func(c *api.Config) { c.Capacity = 14 }), nil},
		{"one more", limits(func(c *api.Config) { c.Capacity = 13 }), only(1)},
		{"many more", limits(func(c *api.Config) { c.Capacity = 1 }), only(1)},
		{"the greatest capacity", limits(func(c *api.Config) { c.Capacity = 4096 }), nil},
	})
	c := config.Default()
	c.Capacity = 4096
	s := engine.Snapshot{Validators: slices.Repeat([]api.Validator{{Status: api.Merged, Exit: -1}}, 4097)}
	expect(t, s, c, 1)
	s.Validators = s.Validators[:4096]
	expect(t, s, c)
}

// P24.1, rule 2: the balances, payments and penalties are the deposits, as an integer of any size.
func TestSum(t *testing.T) {
	expectViolations(t, []violation{
		{"more deposited", state(func(s *engine.Snapshot) { s.Deposited++ }), only(2)},
		{"less deposited", state(func(s *engine.Snapshot) { s.Deposited-- }), only(2)},
		{"nothing deposited", state(func(s *engine.Snapshot) { s.Deposited = 0 }), only(2)},
		{"another high word", state(func(s *engine.Snapshot) { s.Deposited += 1 << 32 }), only(2)},
		{"more paid", state(func(s *engine.Snapshot) { s.Paid++ }), only(2)},
		{"less paid", state(func(s *engine.Snapshot) { s.Paid-- }), only(2)},
		{"more burned", state(func(s *engine.Snapshot) { s.Burned++ }), only(2)},
		{"less burned", state(func(s *engine.Snapshot) { s.Burned-- }), only(2)},
		{"paid, not burned", state(func(s *engine.Snapshot) { s.Paid, s.Burned = s.Paid+12, 0 }), nil},
		{"burned, not paid", state(func(s *engine.Snapshot) { s.Paid, s.Burned = 0, s.Burned+100 }), nil},
		{"a balance that is not live", validator(10, func(v *api.Validator) { v.Balance++ }), only(2)},
		{"a pending balance", validator(0, func(v *api.Validator) { v.Balance-- }), only(2)},
		{"a final balance", validator(13, func(v *api.Validator) { v.Balance++ }), only(2, 8)},
		{"a status that is none", state(func(s *engine.Snapshot) {
			s.Validators = append(s.Validators, api.Validator{Balance: 9, Status: 8, Exit: -1})
		}), only(2)},
		{"the greatest sum", state(func(s *engine.Snapshot) { s.Deposited, s.Paid = top, top-295-12 }), nil},
		{"paid beyond it", state(func(s *engine.Snapshot) { s.Deposited, s.Paid = 0, top-295-12+1 }), only(2)},
		{"the greatest amount paid", state(func(s *engine.Snapshot) { s.Deposited, s.Paid = 295+12-1, top }), only(2)},
		{"the greatest amount burned", state(func(s *engine.Snapshot) { s.Deposited, s.Burned = 295+100-1, top }), only(2)},
		{"paid and burned beyond it", state(func(s *engine.Snapshot) { s.Deposited, s.Paid, s.Burned = 295, 1<<63, 1<<63 }), only(2)},
	})
}

// whales are pending validators with large balances, which were deposited modulo 2^64; nothing else is wrong.
func whales(l ...uint64) engine.Snapshot {
	var s engine.Snapshot
	for i, balance := range l {
		s.Validators = append(s.Validators, api.Validator{Balance: balance, Status: api.Pending, Request: -1, Exit: -1, Withdraw: -1, Deadline: -1})
		s.Pending = append(s.Pending, i)
		s.Deposited += balance
	}
	return s
}

// P24.1, rules 2 and 3: sums that are small modulo 2^64.
func TestLargeBalances(t *testing.T) {
	c := config.Default()
	expect(t, whales(1<<63, 1<<63), c, 2, 3)
	expect(t, whales(top, 1), c, 2, 3)
	expect(t, whales(top, 1, 32), c, 2, 3)
	expect(t, whales(top, top, 2), c, 2, 3)
	expect(t, whales(1<<62, 1<<62, 1<<62, 1<<62), c, 2, 3)
	expect(t, whales(top, 0), c, 3)
	s := whales(top, 1)
	s.Deposited = top
	expect(t, s, c, 2, 3)
}

// P24.1, rule 3: the balances are at most SupplyCap; payments and penalties do not count.
func TestSupply(t *testing.T) {
	narrow := func(supply uint64) func(c *api.Config) {
		return func(c *api.Config) { c.SupplyCap = supply }
	}
	expectViolations(t, []violation{
		{"as much", limits(narrow(295)), nil},
		{"one more", limits(narrow(294)), only(3)},
		{"much more", limits(narrow(128)), only(3)},
		{"a large sum", state(func(s *engine.Snapshot) { s.Deposited, s.Paid = s.Deposited+5000, s.Paid+5000 }), nil},
		{"one that is not live", func(s *engine.Snapshot, c *api.Config) {
			c.SupplyCap = 295
			s.Validators[10].Balance++
			s.Deposited++
		}, only(3)},
		{"one with no status", func(s *engine.Snapshot, c *api.Config) {
			c.SupplyCap = 303
			s.Validators = append(s.Validators, api.Validator{Balance: 9, Status: 0, Exit: -1})
			s.Deposited += 9
		}, only(3)},
	})
	c := config.Default()
	c.SupplyCap = api.MaxAmount
	expect(t, whales(api.MaxAmount), c)
	expect(t, whales(api.MaxAmount/2, api.MaxAmount/2), c)
	expect(t, whales(api.MaxAmount, 1), c, 3)
	expect(t, whales(api.MaxAmount+1), c, 3)
}

// P24.1, rule 4: the active stake is what Active and Exiting validators have, as an integer of any size.
func TestActive(t *testing.T) {
	expectViolations(t, []violation{
		{"more", state(func(s *engine.Snapshot) { s.Active++ }), only(4)},
		{"less", state(func(s *engine.Snapshot) { s.Active-- }), only(4)},
		{"nothing", state(func(s *engine.Snapshot) { s.Active = 0 }), only(4)},
		{"all balances", state(func(s *engine.Snapshot) { s.Active = 295 }), only(4)},
		{"another high word", state(func(s *engine.Snapshot) { s.Active += 1 << 32 }), only(4)},
		{"active", validator(2, func(v *api.Validator) { v.Balance -= 8 }), only(2, 4)},
		{"exiting", validator(6, func(v *api.Validator) { v.Balance -= 8 }), only(2, 4)},
		{"exiting with an epoch", validator(7, func(v *api.Validator) { v.Balance++ }), only(2, 4)},
		{"exiting and slashed", validator(5, func(v *api.Validator) { v.Balance++ }), only(2, 4)},
		{"a new one", state(func(s *engine.Snapshot) {
			s.Validators = append(s.Validators, api.Validator{Balance: 9, Status: api.Active, Exit: -1})
			s.Deposited += 9
		}), only(4)},
	})
	live := func(l ...uint64) engine.Snapshot {
		s := whales(l...)
		for i := range s.Validators {
			s.Validators[i].Status = api.Active
		}
		s.Active, s.Pending = s.Deposited, nil
		return s
	}
	c := config.Default()
	expect(t, live(1<<63, 1<<63), c, 2, 3, 4)
	expect(t, live(top, 1, 32), c, 2, 3, 4)
	expect(t, live(top), c, 3)
	expect(t, live(512, 512), c)
}

// P24.1, rule 5: the activation queue has the indices of the Pending validators, each once, in any order.
func TestPending(t *testing.T) {
	queue := func(l ...int) func(*engine.Snapshot, *api.Config) {
		return state(func(s *engine.Snapshot) { s.Pending = l })
	}
	expectViolations(t, []violation{
		{"in order", queue(0, 1), nil},
		{"empty", queue(), only(5)},
		{"without the first", queue(1), only(5)},
		{"without the last", queue(0), only(5)},
		{"one twice", queue(0, 1, 0), only(5)},
		{"one twice, one missing", queue(0, 0), only(5)},
		{"one twice, one not", queue(1, 1, 0), only(5)},
		{"both twice", queue(0, 1, 1, 0), only(5)},
		{"one three times", queue(0, 1, 0, 0), only(5)},
		{"an active one", queue(0, 1, 2), only(5)},
		{"an active one instead", queue(0, 2), only(5)},
		{"no such index", queue(0, 1, 14), only(5)},
		{"no such index instead", queue(14, 1), only(5)},
		{"a negative index", queue(0, 1, -1), only(5)},
		{"the least int", queue(0, 1, math.MinInt), only(5)},
		{"the greatest int", queue(math.MaxInt, 0, 1), only(5)},
		{"the same low word", queue(0, 1<<32+1), only(5)},
		{"a new one", state(func(s *engine.Snapshot) {
			s.Validators = append(s.Validators, api.Validator{Status: api.Pending, Exit: -1})
		}), only(5)},
		{"the low word of a status", state(func(s *engine.Snapshot) {
			s.Validators = append(s.Validators, api.Validator{Status: 1<<32 + api.Pending, Exit: -1})
		}), nil},
	})
}

// P24.1, rule 6: both queues of exits together have the indices of the Exiting validators without an exit epoch, each once, in any order.
func TestExits(t *testing.T) {
	lanes := func(forced, voluntary []int) func(*engine.Snapshot, *api.Config) {
		return state(func(s *engine.Snapshot) { s.Forced, s.Voluntary = forced, voluntary })
	}
	expectViolations(t, []violation{
		{"all forced", lanes([]int{6, 5, 4}, nil), nil},
		{"all voluntary", lanes([]int{}, []int{4, 5, 6}), nil},
		{"the other way round", lanes([]int{6}, []int{5, 4}), nil},
		{"empty", lanes(nil, nil), only(6)},
		{"no forced ones", lanes(nil, []int{6}), only(6)},
		{"no voluntary ones", lanes([]int{5, 4}, nil), only(6)},
		{"in both", lanes([]int{5, 4}, []int{6, 4}), only(6)},
		{"in both, one missing", lanes([]int{5, 4}, []int{4}), only(6)},
		{"twice forced", lanes([]int{5, 4, 5}, []int{6}), only(6)},
		{"twice voluntary", lanes([]int{5, 4}, []int{6, 6}), only(6)},
		{"with an exit epoch", lanes([]int{5, 4, 7}, []int{6}), only(6)},
		{"with an exit epoch instead", lanes([]int{5, 4}, []int{7}), only(6)},
		{"an active one", lanes([]int{5, 4}, []int{6, 2}), only(6)},
		{"an unbonding one", lanes([]int{5, 4, 8}, []int{6}), only(6)},
		{"no such index", lanes([]int{5, 4}, []int{6, 14}), only(6)},
		{"a negative index", lanes([]int{-1, 5, 4}, []int{6}), only(6)},
		{"the least int instead", lanes([]int{5, math.MinInt}, []int{6}), only(6)},
		{"the same low word", lanes([]int{5, 4}, []int{1<<32 + 6}), only(6)},
		{"an unbonding one without an exit epoch", validator(8, func(v *api.Validator) { v.Exit = -1 }), nil},
		{"another exit epoch", validator(4, func(v *api.Validator) { v.Exit, v.Request, v.Withdraw = -2, -3, 0 }), only(6, 9)},
		{"exiting no more", validator(6, func(v *api.Validator) { v.Status = 1<<32 + api.Exiting }), only(4, 6)},
	})
}

// P24.1, rule 7: who has an exit epoch leaves after the request, and is held for Unbonding epochs at least.
func TestEpochs(t *testing.T) {
	set := func(i, request, exit, withdraw int) func(*engine.Snapshot, *api.Config) {
		return validator(i, func(v *api.Validator) { v.Request, v.Exit, v.Withdraw = request, exit, withdraw })
	}
	const far = 1 << 62
	expectViolations(t, []violation{
		{"held as long", limits(func(c *api.Config) { c.Unbonding = 2 }), nil},
		{"held longer", limits(func(c *api.Config) { c.Unbonding = 1 }), nil},
		{"held too short", limits(func(c *api.Config) { c.Unbonding = 3 }), only(7)},
		{"at once", set(8, 3, 4, 6), nil},
		{"in the epoch of the request", set(8, 4, 4, 6), only(7)},
		{"before the request", set(8, 5, 4, 6), only(7)},
		{"one epoch too short", set(8, 2, 4, 5), only(7)},
		{"not at all", set(8, 2, 4, 4), only(7)},
		{"withdrawn before", set(8, 2, 4, 3), only(7)},
		{"no Withdraw", set(8, 2, 4, -1), only(7)},
		{"no Request", set(8, -1, 0, 2), nil},
		{"no Exit", set(8, 9, -1, -7), nil},
		{"an exit epoch below NoEpoch", set(8, -3, -2, 0), nil},
		{"an exit epoch below NoEpoch and its request", set(8, -1, -2, 0), only(7)},
		{"exiting", set(7, 5, 5, 7), only(7)},
		{"withdrawable", set(10, 0, 2, 3), only(7)},
		{"paid", set(11, 2, 2, 4), only(7)},
		{"the most it may be", set(8, -far, far-2, far), nil},
		{"one less than that", set(8, -far, far-1, far), only(7)},
		{"the greatest epochs", set(8, far, far, far), only(7)},
		{"the least epochs", set(8, -far, -far, -far), only(7)},
		{"the least ones that hold", set(8, -far, -far+1, -far+3), nil},
		{"a difference of 2^63-1", set(8, -far, -far+1, far), nil},
		{"a difference of 2^63", set(8, -far, -far, far), only(7)},
		{"a difference of 2^62", set(8, -1, 0, far), nil},
		{"a negative difference", set(8, -far, far, -far), only(7)},
		{"the low word of a difference", set(8, 0, 1<<32+1, 3), only(7)},
		{"pending", set(0, 2, 4, 6), only(7)},
		{"active", set(2, 2, 4, 6), only(7)},
		{"merged", set(13, 2, 4, 6), only(7)},
		{"a status below all", state(func(s *engine.Snapshot) {
			s.Validators = append(s.Validators, api.Validator{Status: 0, Request: 2, Exit: 4, Withdraw: 6})
		}), only(7)},
		{"a status above all", state(func(s *engine.Snapshot) {
			s.Validators = append(s.Validators, api.Validator{Status: 8, Request: 2, Exit: 4, Withdraw: 6})
		}), only(7)},
	})
	// The longest time to be held, from the least exit epoch that may follow a request.
	c := config.Default()
	c.Unbonding, c.SlashDelay = 1<<20-1, 1<<20
	v := api.Validator{Status: api.Paid, Request: -far, Exit: -far + 1, Withdraw: -far + 1<<20}
	expect(t, engine.Snapshot{Validators: []api.Validator{v}}, c)
	v.Withdraw--
	expect(t, engine.Snapshot{Validators: []api.Validator{v}}, c, 7)
}

// P24.1, rule 8: a Paid or Merged validator has the balance 0.
func TestEmpty(t *testing.T) {
	for _, i := range []int{11, 12, 13} {
		for _, balance := range []uint64{1, 2, 32, 1 << 32, 1 << 63, top} {
			s, c := sound(), config.Default()
			s.Validators[i].Balance = balance
			s.Paid, s.Deposited = 0, 295+12+balance
			want := []int{3, 8}
			if balance <= 32 {
				want = []int{8}
			} else if balance > top-295-12 {
				want = []int{2, 3, 8}
			}
			expect(t, s, c, want...)
		}
	}
	expectViolations(t, []violation{
		{"an empty one that is not final", state(func(s *engine.Snapshot) { s.Validators[10].Balance, s.Paid = 0, s.Paid+50 }), nil},
		{"an empty active one", state(func(s *engine.Snapshot) { s.Validators[2].Balance, s.Paid, s.Active = 0, s.Paid+40, s.Active-40 }), nil},
		{"a status that is none", state(func(s *engine.Snapshot) {
			s.Validators = append(s.Validators, api.Validator{Balance: 9, Status: 8, Exit: -1}, api.Validator{Balance: 9, Status: 1<<32 + api.Paid, Exit: -1})
			s.Deposited += 18
		}), nil},
	})
}

// P24.1, rule 9: the unbonding ring has as many validators as are Unbonding, or Exiting with an exit epoch.
func TestUnbonding(t *testing.T) {
	for _, n := range []int{0, 1, 2, 4, 5, 7, 8, -3, 1<<32 + 3, math.MinInt, math.MaxInt} {
		s := sound()
		s.Unbonding = n
		expect(t, s, config.Default(), 9)
	}
	expectViolations(t, []violation{
		{"unbonding without an exit epoch", state(func(s *engine.Snapshot) { s.Validators[8].Exit = -1 }), nil},
		{"withdrawable", validator(8, func(v *api.Validator) { v.Status = api.Withdrawable }), only(9)},
		{"unbonding again", validator(10, func(v *api.Validator) { v.Status = api.Unbonding }), only(9)},
		{"left", state(func(s *engine.Snapshot) { s.Validators[7].Status, s.Active = api.Unbonding, s.Active-17 }), nil},
		{"assigned", state(func(s *engine.Snapshot) { s.Validators[6].Exit, s.Validators[6].Withdraw, s.Voluntary = 5, 7, nil }), only(9)},
		{"assigned and stored", state(func(s *engine.Snapshot) {
			s.Validators[6].Exit, s.Validators[6].Withdraw, s.Voluntary, s.Unbonding = 5, 7, nil, 4
		}), nil},
	})
}

// P24.1, rule 10: no queue is longer than QueueSize.
func TestQueues(t *testing.T) {
	// long has a queue of a length, without another violation.
	long := func(queue, length int) engine.Snapshot {
		var s engine.Snapshot
		status := []int{api.Pending, api.Exiting, api.Exiting, 0, 0}[queue]
		l := make([]int, length)
		for i := range l {
			l[i] = i
			if status != 0 {
				s.Validators = append(s.Validators, api.Validator{Status: status, Exit: -1})
			}
		}
		switch queue {
		case 0:
			s.Pending = l
		case 1:
			s.Forced = l
		case 2:
			s.Voluntary = l
		case 3:
			s.Merges = make([][2]int, length)
		case 4:
			s.Partials = make([]partial.Request, length)
		}
		return s
	}
	c := config.Default()
	for _, size := range []int{1, 2, 8, 100, 4095} {
		c.Capacity, c.QueueSize = 4096, size
		for queue := range 5 {
			expect(t, long(queue, size-1), c)
			expect(t, long(queue, size), c)
			expect(t, long(queue, size+1), c, 10)
		}
	}
	c.QueueSize = 4096
	for queue := range 5 {
		want := []int{1, 10}
		if queue >= 3 {
			want = []int{10}
		}
		expect(t, long(queue, 4096), c)
		expect(t, long(queue, 4097), c, want...)
	}
	// Both queues of exits have a limit of their own.
	s := long(1, 8)
	c.QueueSize = 4
	s.Forced, s.Voluntary = s.Forced[:4:4], s.Forced[4:]
	expect(t, s, c)
	c.QueueSize = 3
	expect(t, s, c, 10)
}

// P24.1, rule 11: the block is not negative, and the epoch is that of the block.
func TestClock(t *testing.T) {
	c := config.Default()
	for _, test := range []struct {
		block, epoch, length int
		holds                bool
	}{
		{0, 0, 4, true}, {3, 0, 4, true}, {4, 1, 4, true}, {7, 1, 4, true}, {8, 2, 4, true},
		{0, 1, 4, false}, {3, 1, 4, false}, {4, 0, 4, false}, {7, 2, 4, false}, {0, -1, 4, false},
		{5, 5, 1, true}, {5, 4, 1, false}, {5, 6, 1, false},
		{4095, 0, 4096, true}, {4096, 1, 4096, true}, {4095, 1, 4096, false},
		{-1, 0, 4, false}, {-1, -1, 4, false}, {-4, -1, 4, false}, {-4, -1, 1, false}, {-4, -4, 1, false},
		{math.MinInt, math.MinInt, 1, false}, {math.MinInt, math.MinInt / 4, 4, false}, {math.MinInt, 0, 4, false},
		{math.MaxInt, math.MaxInt, 1, true}, {math.MaxInt, math.MaxInt / 4, 4, true}, {math.MaxInt, math.MaxInt/4 + 1, 4, false},
		{math.MaxInt, math.MinInt, 1, false}, {4, 1 << 62, 4, false}, {4, 1<<62 + 1, 4, false}, {4, 1<<32 + 1, 4, false}, {1 << 32, 0, 4, false},
		{12, 4, 3, true}, {14, 4, 3, true}, {15, 4, 3, false}, {11, 4, 3, false},
	} {
		c.EpochLen = test.length
		s := sound()
		s.Block, s.Epoch = test.block, test.epoch
		if test.holds {
			expect(t, s, valid(t, c))
		} else {
			expect(t, s, valid(t, c), 11)
		}
	}
}

// P24.1, rule 12: a slashed validator leaves, and has no deadline.
func TestSlashed(t *testing.T) {
	slash := func(v *api.Validator) { v.Slashed, v.Deadline = true, -1 }
	expectViolations(t, []violation{
		{"pending", validator(0, slash), only(12)},
		{"active", validator(2, slash), only(12)},
		{"exiting", validator(4, slash), nil},
		{"exiting with an epoch", validator(7, slash), nil},
		{"unbonding", validator(8, slash), nil},
		{"withdrawable", validator(10, slash), nil},
		{"paid", validator(11, slash), nil},
		{"merged", validator(13, slash), only(12)},
		{"a status below all", state(func(s *engine.Snapshot) {
			s.Validators = append(s.Validators, api.Validator{Status: 0, Slashed: true, Exit: -1, Deadline: -1})
		}), only(12)},
		{"a status above all", state(func(s *engine.Snapshot) {
			s.Validators = append(s.Validators, api.Validator{Status: 8, Slashed: true, Exit: -1, Deadline: -1})
		}), only(12)},
		{"not slashed, with no deadline", validator(8, func(v *api.Validator) { v.Deadline = -1 }), nil},
		{"active, with a deadline", validator(2, func(v *api.Validator) { v.Deadline = 9 }), nil},
	})
	for _, i := range []int{5, 9, 12} {
		for _, deadline := range []int{0, 1, 8, -2, 1<<32 - 1, -1<<32 - 1, math.MinInt, math.MaxInt} {
			s := sound()
			s.Validators[i].Deadline = deadline
			expect(t, s, config.Default(), 12)
		}
	}
}

// P24.1: a validator matters wherever it is among others.
func TestEachValidator(t *testing.T) {
	spare := api.Validator{Status: api.Merged, Exit: -1}
	for _, wrong := range []struct {
		v     api.Validator
		rules []int
	}{
		{api.Validator{Status: api.Pending, Exit: -1}, only(5)},
		{api.Validator{Status: api.Exiting, Exit: -1}, only(6)},
		{api.Validator{Status: api.Paid, Exit: 4, Request: 4, Withdraw: 6}, only(7)},
		{api.Validator{Status: api.Unbonding, Exit: -1}, only(9)},
		{api.Validator{Status: api.Merged, Exit: -1, Balance: 1}, only(2, 8)},
		{api.Validator{Status: api.Active, Exit: -1, Balance: 1}, only(2, 4)},
		{api.Validator{Status: api.Active, Exit: -1, Slashed: true, Deadline: -1}, only(12)},
		{api.Validator{Status: api.Paid, Exit: -1, Slashed: true}, only(12)},
	} {
		for i := range 16 {
			s := engine.Snapshot{Validators: slices.Repeat([]api.Validator{spare}, 16)}
			s.Validators[i] = wrong.v
			expect(t, s, config.Default(), wrong.rules...)
		}
	}
}

// P24.1: the first violated rule, and all of them in ascending order.
func TestAllRules(t *testing.T) {
	c := config.Default()
	c.Capacity, c.QueueSize = 1, 1
	s := engine.Snapshot{
		Block: -1, Active: 1, Pending: []int{0, 0}, Forced: []int{0}, Unbonding: 1,
		Validators: []api.Validator{{Status: api.Merged, Balance: top, Slashed: true}, {Status: api.Paid, Balance: 1}},
	}
	all := []int{1, 2, 3, 4, 5, 6, 7, 8, 9, 10, 11, 12}
	expect(t, s, c, all...)
	repairs := []func(){
		func() { c.Capacity = 2 },
		func() { s.Deposited, s.Validators[0].Balance = top, top-1 },
		func() { s.Validators[0].Balance, s.Deposited = 31, 32 },
		func() { s.Active = 0 },
		func() { s.Pending, s.Merges = nil, make([][2]int, 2) },
		func() { s.Forced = nil },
		func() { s.Validators[0].Exit, s.Validators[1].Exit = -1, -1 },
		func() { s.Validators[0].Balance, s.Validators[1].Balance, s.Burned = 0, 0, 32 },
		func() { s.Unbonding = 0 },
		func() { s.Merges = nil },
		func() { s.Block = 0 },
		func() { s.Validators[0].Slashed = false },
	}
	for i, repair := range repairs {
		repair()
		expect(t, s, c, all[i+1:]...)
	}
}

// Fields that no rule mentions do not matter.
func TestOtherFields(t *testing.T) {
	for _, n := range someNumbers {
		s := sound()
		s.Cursor, s.Carry = n, uint64(n)
		s.Merges = [][2]int{{n, n}, {0, n}}
		s.Partials = []partial.Request{{Index: n, Amount: uint64(n)}}
		for i := range s.Validators {
			v := &s.Validators[i]
			if !v.Slashed {
				v.Deadline = n
			}
			if v.Exit == -1 {
				v.Request, v.Withdraw = n, n
			}
		}
		c := config.Default()
		c.Visits, c.Payments, c.RingLen, c.Merges, c.ForcedCap = 4096, 4096, 1, 0, 0
		c.MinDeposit, c.MaxDeposit, c.MinBalance, c.MinChurn, c.Quotient, c.PenaltyNum = 1, 1, 1, 1, 1, 0
		c.SlashDelay = 1 << 20
		expect(t, s, valid(t, c))
	}
}

// P24.1, rules 5 and 6: all queues of up to 4 indices.
func TestSmallQueues(t *testing.T) {
	l := []api.Validator{
		{Status: api.Pending, Exit: -1}, {Status: api.Exiting, Exit: -1}, {Status: api.Pending, Exit: -1}, {Status: api.Exiting, Exit: -1},
	}
	var visit func(queue []int)
	visit = func(queue []int) {
		for cut := range len(queue) + 1 {
			s := engine.Snapshot{Validators: l, Pending: []int{0, 2}, Forced: queue[:cut], Voluntary: queue[cut:]}
			expect(t, s, config.Default(), violations(s, config.Default())...)
		}
		s := engine.Snapshot{Validators: l, Pending: queue, Forced: []int{3}, Voluntary: []int{1}}
		expect(t, s, config.Default(), violations(s, config.Default())...)
		if len(queue) == 4 {
			return
		}
		for i := -1; i <= 4; i++ {
			visit(append(slices.Clone(queue), i))
		}
	}
	visit(nil)
}

// Elements beyond the length of a slice are neither read nor written, and no argument is changed.
func TestArguments(t *testing.T) {
	s, c := sound(), config.Default()
	s.Pending = append(s.Pending, 7, 8)[:2]
	s.Forced = append(s.Forced, 1, 2, 3)[:2]
	s.Voluntary = append(s.Voluntary, 4, 5)[:1]
	s.Merges = append(s.Merges, make([][2]int, 20)...)[:1]
	s.Partials = append(s.Partials, make([]partial.Request, 20)...)[:1]
	s.Validators = append(s.Validators, slices.Repeat([]api.Validator{{Balance: 7, Status: api.Active, Slashed: true}}, 20)...)[:14]
	whole := func() engine.Snapshot {
		w := s
		w.Pending, w.Forced, w.Voluntary = slices.Clone(s.Pending[:4]), slices.Clone(s.Forced[:5]), slices.Clone(s.Voluntary[:3])
		w.Merges, w.Partials, w.Validators = slices.Clone(s.Merges[:21]), slices.Clone(s.Partials[:21]), slices.Clone(s.Validators[:34])
		return w
	}
	before := whole()
	expect(t, s, c)
	after := whole()
	if !slices.Equal(before.Pending, after.Pending) || !slices.Equal(before.Forced, after.Forced) || !slices.Equal(before.Voluntary, after.Voluntary) ||
		!slices.Equal(before.Merges, after.Merges) || !slices.Equal(before.Partials, after.Partials) || !slices.Equal(before.Validators, after.Validators) {
		t.Errorf("%+v has become %+v", before, after)
	}
}

// A result of All shares no memory with another one.
func TestResults(t *testing.T) {
	s, c := sound(), config.Default()
	s.Deposited, s.Active, s.Unbonding = 1, 1, 1
	first, second := audit.All(s, c), audit.All(s, c)
	clear(first[:cap(first)])
	if !slices.Equal(second, []int{2, 4, 9}) {
		t.Error(second)
	}
	expect(t, s, c, 2, 4, 9)
}

// Nothing is specified for other configurations, but no function panics.
func TestInvalidConfigurations(t *testing.T) {
	for _, n := range someNumbers {
		for _, m := range someNumbers {
			c := config.Default()
			c.Capacity, c.QueueSize, c.Unbonding, c.SlashDelay, c.EpochLen, c.SupplyCap = n, m, n, m, m, uint64(n)
			s := sound()
			s.Block, s.Epoch = n, m
			s.Validators[8].Exit, s.Validators[8].Withdraw, s.Validators[9].Withdraw = n, m, n
			first, all := audit.Check(s, c), audit.All(s, c)
			if len(all) == 0 && first != 0 || len(all) > 0 && first != all[0] {
				t.Errorf("Check = %d and All = %v", first, all)
			}
		}
	}
}

func TestConcurrent(t *testing.T) {
	s, c := sound(), config.Default()
	s.Paid, s.Unbonding = 99, 9
	var workers sync.WaitGroup
	for range 8 {
		workers.Go(func() {
			for range 200 {
				if all := audit.All(s, c); audit.Check(s, c) != 2 || !slices.Equal(all, []int{2, 9}) || audit.Name(9) != "unbonding" {
					t.Errorf("All = %v", all)
					return
				}
			}
		})
	}
	workers.Wait()
}
