package audit_test

import (
	"math/rand"
	"testing"

	"egress/api"
	"egress/config"
	"egress/engine"
	"egress/script"
)

func start(t *testing.T, c api.Config) *engine.Engine {
	t.Helper()
	e, code := engine.New(c)
	if e == nil || code != api.OK {
		t.Fatalf("New(%+v) = %v, %d", c, e, code)
	}
	return e
}

// P24.3: no operation of a long script leads to a violation. It has each kind, and validators with each status.
func TestScript(t *testing.T) {
	// With one visit of the sweep in most blocks, not all balances are paid as soon as they are withdrawable.
	c := config.Default()
	c.Visits, c.Payments, c.Partials = 2, 2, 1
	e := start(t, valid(t, c))
	missing := map[int]bool{1: true, 2: true, 3: true, 4: true, 5: true, 6: true, 7: true}
	const text = `deposit 32
deposit 64
exit 0
deposit 20
deposit 15
tick
tick
tick
tick
tick
tick
tick
tick
tick
tick
tick
tick
deposit 30
deposit 16
partial 1 9
partial 1 60
consolidate 2 1
exit 0
exit 0
tick
tick
tick
tick
slash 0
slash 0
eject 1
fly
tick
tick
tick
tick
tick
tick
tick
tick
eject 4
slash 3
partial 4 1
deposit 50`
	operations := append(script.Read(text), script.Ticks(80)...)
	operations = append(operations, script.Read("exit 5\nslash 1\nexit 3")...)
	operations = append(operations, script.Ticks(80)...)
	for i, o := range operations {
		e.Apply(o)
		s := e.Snapshot()
		expect(t, s, e.Config())
		if t.Failed() {
			t.Fatalf("after the operation %d, %+v", i, o)
		}
		for _, v := range s.Validators {
			delete(missing, v.Status)
		}
	}
	if len(missing) > 0 {
		t.Errorf("statuses never seen: %v", missing)
	}
}

// randomConfig is a valid configuration with small numbers, so that each limit is reached soon. Some have amounts near the greatest ones.
func randomConfig(t *testing.T, source *rand.Rand) api.Config {
	t.Helper()
	from := func(least, most int) int { return least + source.Intn(most-least+1) }
	between := func(least, most uint64) uint64 { return least + uint64(source.Int63n(int64(most-least)+1)) }
	c := api.Config{Capacity: from(1, 9), QueueSize: from(1, 5)}
	c.MinDeposit = between(1, 12)
	c.MaxDeposit = c.MinDeposit + between(0, 30)
	c.SupplyCap = c.MaxDeposit + between(0, 150)
	c.MinBalance = between(1, c.MinDeposit)
	c.MaxBalance = between(c.MaxDeposit, min(c.SupplyCap, 2*c.MaxDeposit))
	c.MinChurn, c.Quotient, c.ForcedCap = between(1, 40), between(1, 8), between(0, 60)
	c.Unbonding = from(1, 4)
	c.SlashDelay = c.Unbonding + from(1, 6)
	c.RingLen, c.EpochLen, c.Visits, c.Payments = from(1, 5), from(1, 4), from(1, 6), from(1, 4)
	c.Partials, c.Merges = from(0, min(c.Visits, c.Payments)-1), from(0, 3)
	c.PenaltyDen = between(1, 6)
	c.PenaltyNum = between(0, c.PenaltyDen)
	if source.Intn(6) == 0 {
		for _, a := range []*uint64{&c.MinDeposit, &c.MaxDeposit, &c.SupplyCap, &c.MinBalance, &c.MaxBalance, &c.MinChurn, &c.ForcedCap} {
			*a <<= 51
		}
	}
	return valid(t, c)
}

// randomOp is an operation that is accepted often enough.
func randomOp(source *rand.Rand, c api.Config, validators int) api.Op {
	kinds := []int{1, 1, 1, 2, 2, 3, 4, 5, 5, 6, 6, 7, 7, 7, 7, 7, 7, 7, 7, 0}
	o := api.Op{Kind: pick(source, kinds), Index: source.Intn(validators + 1), Target: source.Intn(validators + 1)}
	o.Amount = c.MinDeposit + uint64(source.Int63n(int64(c.MaxDeposit-c.MinDeposit)+1))
	if source.Intn(6) == 0 {
		o.Amount >>= source.Intn(6)
	}
	return o
}

// P24.3: Check returns 0 after each operation of random engines.
func TestEngine(t *testing.T) {
	source := rand.New(rand.NewSource(243))
	for n := range 1000 {
		c := randomConfig(t, source)
		if n%20 == 0 {
			c = config.Default()
		}
		e := start(t, c)
		for range 250 {
			before := e.Snapshot()
			o := randomOp(source, c, len(before.Validators))
			e.Apply(o)
			expect(t, e.Snapshot(), c)
			if t.Failed() {
				t.Fatalf("%+v for %+v", o, before)
			}
		}
	}
}

// tamper makes a change that the engine has not made.
func tamper(source *rand.Rand, s *engine.Snapshot) {
	numbers := []*int{&s.Block, &s.Epoch, &s.Unbonding}
	sums := []*uint64{&s.Deposited, &s.Paid, &s.Burned, &s.Active}
	for _, l := range [][]int{s.Pending, s.Forced, s.Voluntary} {
		for i := range l {
			numbers = append(numbers, &l[i])
		}
	}
	for i := range s.Validators {
		v := &s.Validators[i]
		numbers = append(numbers, &v.Status, &v.Request, &v.Exit, &v.Withdraw, &v.Deadline)
		sums = append(sums, &v.Balance)
	}
	switch source.Intn(8) {
	case 0:
		*pick(source, sums) += pick(source, []uint64{1, 1 << 32, 1 << 63, top})
	case 1:
		*pick(source, sums) = 0
	case 2:
		for _, l := range []*[]int{&s.Pending, &s.Forced, &s.Voluntary} {
			if len(*l) > 0 && source.Intn(2) == 0 {
				*l = append(*l, pick(source, *l))
			}
		}
	case 3:
		if len(s.Validators) > 0 {
			v := &s.Validators[source.Intn(len(s.Validators))]
			v.Slashed = !v.Slashed
		}
	default:
		*pick(source, numbers) += pick(source, []int{1, -1, 2, -2, 1 << 32})
	}
}

// P24.1: Check and All agree with the specification for states of engines after small changes, which violate each rule but the first one.
func TestTampered(t *testing.T) {
	source := rand.New(rand.NewSource(241))
	counts := map[int]int{}
	for range 1000 {
		c := randomConfig(t, source)
		e := start(t, c)
		for range 40 {
			e.Run(randomOp(source, c, len(e.Snapshot().Validators)), randomOp(source, c, len(e.Snapshot().Validators)))
			s := e.Snapshot()
			tamper(source, &s)
			want := violations(s, c)
			expect(t, s, c, want...)
			if t.Failed() {
				return
			}
			for _, number := range want {
				counts[number]++
			}
		}
	}
	for number := 2; number <= 12; number++ {
		if counts[number] < 20 {
			t.Errorf("the rule %d was violated %d times", number, counts[number])
		}
	}
}
