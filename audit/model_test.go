package audit_test

import (
	"math"
	"math/big"
	"math/rand"
	"slices"
	"testing"

	"egress/api"
	"egress/audit"
	"egress/config"
	"egress/engine"
	"egress/partial"
)

// names is the chapter's table of rules; the first one has no number.
var names = []string{"", "capacity", "sum", "supply", "active", "pending", "exits", "epochs", "empty", "unbonding", "queues", "clock", "slashed"}

// amount is an integer of any size.
func amount(a uint64) *big.Int { return new(big.Int).SetUint64(a) }

// add is the sum of integers of any size.
func add(l ...*big.Int) *big.Int {
	sum := new(big.Int)
	for _, a := range l {
		sum.Add(sum, a)
	}
	return sum
}

// balances is the sum of the balances of the validators with one of the statuses, or of all validators.
func balances(s engine.Snapshot, states ...int) *big.Int {
	sum := new(big.Int)
	for _, v := range s.Validators {
		if len(states) == 0 || slices.Contains(states, v.Status) {
			sum.Add(sum, amount(v.Balance))
		}
	}
	return sum
}

// indices are those of the validators with a status, and with an exit epoch or without one.
func indices(s engine.Snapshot, status int, exits ...bool) []int {
	var l []int
	for i, v := range s.Validators {
		if v.Status == status && slices.Contains(exits, v.Exit != -1) {
			l = append(l, i)
		}
	}
	return l
}

// permutation reports whether a queue contains the indices in any order.
func permutation(queue, indices []int) bool {
	sorted := slices.Clone(queue)
	slices.Sort(sorted)
	return slices.Equal(sorted, indices)
}

// violations is the specification of All, with integers of any size, and without any other package of the program.
func violations(s engine.Snapshot, c api.Config) []int {
	valid := [13]bool{
		1:  len(s.Validators) <= c.Capacity,
		2:  add(balances(s), amount(s.Paid), amount(s.Burned)).Cmp(amount(s.Deposited)) == 0,
		3:  balances(s).Cmp(amount(c.SupplyCap)) <= 0,
		4:  balances(s, 2, 3).Cmp(amount(s.Active)) == 0,
		5:  permutation(s.Pending, indices(s, 1, true, false)),
		6:  permutation(append(slices.Clone(s.Forced), s.Voluntary...), indices(s, 3, false)),
		7:  true,
		8:  balances(s, 6, 7).Sign() == 0,
		9:  s.Unbonding == len(indices(s, 4, true, false))+len(indices(s, 3, true)),
		10: true,
		11: s.Block >= 0 && int64(s.Epoch) == floor(s.Block, c.EpochLen),
		12: true,
	}
	for _, v := range s.Validators {
		if v.Exit != -1 {
			held := new(big.Int).Sub(big.NewInt(int64(v.Withdraw)), big.NewInt(int64(v.Exit)))
			if v.Status < 3 || v.Status > 6 || v.Exit <= v.Request || held.Cmp(big.NewInt(int64(c.Unbonding))) < 0 {
				valid[7] = false
			}
		}
		if v.Slashed && (v.Status < 3 || v.Status > 6 || v.Deadline != -1) {
			valid[12] = false
		}
	}
	for _, length := range []int{len(s.Pending), len(s.Forced), len(s.Voluntary), len(s.Merges), len(s.Partials)} {
		if length > c.QueueSize {
			valid[10] = false
		}
	}
	var l []int
	for number := 1; number <= 12; number++ {
		if !valid[number] {
			l = append(l, number)
		}
	}
	return l
}

func floor(a, b int) int64 {
	return new(big.Int).Div(big.NewInt(int64(a)), big.NewInt(int64(b))).Int64()
}

// expect compares Check and All with the numbers of the rules that have to be violated.
func expect(t *testing.T, s engine.Snapshot, c api.Config, want ...int) {
	t.Helper()
	first := 0
	if len(want) > 0 {
		first = want[0]
	}
	if got := audit.Check(s, c); got != first {
		t.Errorf("Check = %d; want %d for %+v with %+v", got, first, s, c)
	}
	if got := audit.All(s, c); !slices.Equal(got, want) {
		t.Errorf("All = %v; want %v for %+v with %+v", got, want, s, c)
	}
}

// The least bits of the greater numbers look like those of small ones.
var (
	someStates  = []int{1, 2, 3, 4, 5, 6, 7, 1, 2, 3, 3, 4, 0, 8, -1, math.MinInt, math.MaxInt, 1<<32 + 2, 1<<32 + 3}
	someEpochs  = []int{-1, 0, 1, 2, 3, 4, 5, 6, 7, 8, -2, -3, -1 << 62, -1<<62 + 1, -1<<62 + 2, 1<<62 - 2, 1<<62 - 1, 1 << 62, 1<<32 - 1, 1 << 32, 1<<32 + 1, -1 << 32}
	someAmounts = []uint64{0, 1, 2, 3, 16, 32, 64, 1 << 32, 1<<32 + 1, 1 << 60, 1<<60 + 1, 1 << 62, 1 << 63, 1<<63 - 1, math.MaxUint64, math.MaxUint64 - 1}
	someIndices = []int{0, 1, 2, 3, 4, 5, -1, -2, 6, 7, math.MinInt, math.MaxInt, 1 << 32, 1<<32 + 1, -1 << 32}
	someNumbers = []int{0, 1, 2, 3, 4, 5, 6, 7, 8, 9, 15, 16, 17, -1, -2, -4, math.MinInt, math.MaxInt, 1 << 32, 1<<32 + 1}
)

func pick[T any](source *rand.Rand, l []T) T { return l[source.Intn(len(l))] }

// mostly picks one of the first elements, and one of all of them only seldom.
func mostly[T any](source *rand.Rand, l []T, first int) T {
	if source.Intn(12) != 0 {
		l = l[:first]
	}
	return pick(source, l)
}

// randomSnapshot may have any fields, but those that follow from others are mostly right.
func randomSnapshot(source *rand.Rand, c api.Config) engine.Snapshot {
	var s engine.Snapshot
	for range source.Intn(6) {
		v := api.Validator{
			Balance: mostly(source, someAmounts, 7), Status: mostly(source, someStates, 12), Slashed: source.Intn(6) == 0,
			Request: mostly(source, someEpochs, 3), Exit: mostly(source, someEpochs, 1), Withdraw: mostly(source, someEpochs, 8), Deadline: mostly(source, someEpochs, 3),
		}
		if v.Status >= 4 && v.Status <= 6 || v.Status == 3 && source.Intn(2) == 0 {
			v.Exit = mostly(source, someEpochs, 5)
			v.Withdraw = v.Exit + c.Unbonding + source.Intn(3)
			if source.Intn(6) == 0 {
				v.Withdraw = pick(source, someEpochs)
			}
		}
		if v.Status >= 6 && source.Intn(6) != 0 {
			v.Balance = 0
		}
		s.Validators = append(s.Validators, v)
	}
	s.Paid, s.Burned = mostly(source, someAmounts, 7), mostly(source, someAmounts, 7)
	// The low words of these sums are the same as those of greater integers.
	s.Deposited = low(add(balances(s), amount(s.Paid), amount(s.Burned), amount(mostly(source, someAmounts, 1))))
	s.Active = low(add(balances(s, 2, 3), amount(mostly(source, someAmounts, 1))))
	s.Pending = mixed(source, indices(s, 1, true, false))
	queued := mixed(source, indices(s, 3, false))
	cut := source.Intn(len(queued) + 1)
	s.Forced, s.Voluntary = queued[:cut:cut], queued[cut:]
	s.Merges = make([][2]int, mostly(source, []int{0, 1, c.QueueSize, c.QueueSize + 1}, 3))
	s.Partials = make([]partial.Request, mostly(source, []int{0, 1, c.QueueSize, c.QueueSize + 1}, 3))
	s.Unbonding = len(indices(s, 4, true, false)) + len(indices(s, 3, true)) + mostly(source, someNumbers, 1)
	s.Block = mostly(source, someNumbers, 13)
	s.Epoch = int(floor(s.Block, c.EpochLen)) + mostly(source, someNumbers, 1)
	s.Cursor, s.Carry = pick(source, someNumbers), pick(source, someAmounts)
	return s
}

// low is an integer modulo 2^64.
func low(a *big.Int) uint64 {
	return new(big.Int).And(a, amount(math.MaxUint64)).Uint64()
}

// mixed is a queue of the indices in any order, sometimes with a change.
func mixed(source *rand.Rand, l []int) []int {
	source.Shuffle(len(l), func(i, j int) { l[i], l[j] = l[j], l[i] })
	if source.Intn(8) == 0 {
		l = append(l, pick(source, someIndices))
	}
	if len(l) > 0 && source.Intn(8) == 0 {
		l[source.Intn(len(l))] = pick(source, someIndices)
	}
	if len(l) > 0 && source.Intn(12) == 0 {
		l = l[1:]
	}
	return l
}

// randomLimits is a valid configuration with limits that the random snapshots reach.
func randomLimits(t *testing.T, source *rand.Rand) api.Config {
	t.Helper()
	c := config.Default()
	c.Capacity, c.QueueSize, c.EpochLen = 1+source.Intn(6), 1+source.Intn(3), 1+source.Intn(5)
	c.Unbonding = 1 + source.Intn(3)
	c.SlashDelay = c.Unbonding + 1 + source.Intn(3)
	c.SupplyCap = pick(source, []uint64{64, 65, 96, 128, 1 << 59, 1<<60 - 1, 1 << 60})
	c.MaxBalance = c.MaxDeposit
	return valid(t, c)
}

// valid is the configuration itself.
func valid(t *testing.T, c api.Config) api.Config {
	t.Helper()
	if !config.Valid(c) {
		t.Fatalf("field %d of a configuration is not valid", config.Check(c))
	}
	return c
}

// P24.1: Check and All agree with the specification for random snapshots. Each rule is the only violated one of some of them, and others violate many rules.
func TestRandomSnapshots(t *testing.T) {
	source := rand.New(rand.NewSource(24))
	alone, many := map[int]int{}, map[int]int{}
	for range 200000 {
		c := randomLimits(t, source)
		s := randomSnapshot(source, c)
		want := violations(s, c)
		expect(t, s, c, want...)
		if t.Failed() {
			return
		}
		many[len(want)]++
		if len(want) == 1 {
			alone[want[0]]++
		}
	}
	for number := 1; number <= 12; number++ {
		if alone[number] < 20 {
			t.Errorf("the rule %d alone was violated %d times", number, alone[number])
		}
	}
	if many[0] < 1000 || many[5] < 1000 {
		t.Errorf("numbers of violated rules: %v", many)
	}
}
