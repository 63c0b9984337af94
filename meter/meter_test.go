package meter_test

import (
	"fmt"
	"math"
	"math/big"
	"math/rand"
	"slices"
	"sync"
	"testing"

	"egress/meter"
)

const top = math.MaxUint64

// call is a call of Grant, Take or Drop. Drop does not read the amount.
type call struct {
	name   string
	amount uint64
}

// perform makes the call on a meter, and returns its result as a string.
func (c call) perform(m *meter.Meter) string {
	switch c.name {
	case "Grant":
		return fmt.Sprint(m.Grant(c.amount))
	case "Take":
		return fmt.Sprint(m.Take(c.amount))
	}
	return fmt.Sprint(m.Drop())
}

// model is the specification of a meter with integers of any size, none of which wraps around.
type model struct{ balance, spent, granted, taken, dropped *big.Int }

func integer(a uint64) *big.Int { return new(big.Int).SetUint64(a) }

func newModel() *model {
	return &model{new(big.Int), new(big.Int), new(big.Int), new(big.Int), new(big.Int)}
}

// perform makes the call on the model, and returns the result that is required as a string.
func (m *model) perform(c call) string {
	amount := integer(c.amount)
	switch c.name {
	case "Grant":
		if room := new(big.Int).Sub(integer(top), m.balance); amount.Cmp(room) > 0 {
			amount = room
		}
		m.balance.Add(m.balance, amount)
		m.granted.Add(m.granted, amount)
		m.spent.SetUint64(0)
		return m.balance.String()
	case "Take":
		if amount.Cmp(m.balance) > 0 {
			return "false"
		}
		m.balance.Sub(m.balance, amount)
		m.taken.Add(m.taken, amount)
		m.spent.Add(m.spent, amount)
		return "true"
	}
	dropped := m.balance.String()
	m.dropped.Add(m.dropped, m.balance)
	m.balance.SetUint64(0)
	return dropped
}

// reduced returns a number modulo 2^64.
func reduced(a *big.Int) uint64 {
	return new(big.Int).And(a, integer(top)).Uint64()
}

func (m *model) totals() meter.Totals {
	return meter.Totals{Granted: reduced(m.granted), Taken: reduced(m.taken), Dropped: reduced(m.dropped)}
}

// expectState compares all that can be read from a meter with the model. It reads twice, because reading must not change anything.
func expectState(t *testing.T, m *meter.Meter, want *model, after any) {
	t.Helper()
	for range 2 {
		if got := m.Balance(); integer(got).Cmp(want.balance) != 0 {
			t.Errorf("after %v: Balance = %d; want %v", after, got, want.balance)
		}
		if got := m.Spent(); integer(got).Cmp(want.spent) != 0 {
			t.Errorf("after %v: Spent = %d; want %v", after, got, want.spent)
		}
		if got := m.Totals(); got != want.totals() {
			t.Errorf("after %v: Totals = %+v; want %+v", after, got, want.totals())
		}
	}
	// P11.4
	if got := m.Totals(); got.Granted != m.Balance()+got.Taken+got.Dropped {
		t.Errorf("after %v: the balance %d does not agree with %+v", after, m.Balance(), got)
	}
}

// expectCalls makes the calls on a new meter, and compares each result with the model.
func expectCalls(t *testing.T, calls []call) {
	t.Helper()
	m, want := meter.New(), newModel()
	expectState(t, m, want, "New")
	for i, c := range calls {
		if got, result := c.perform(m), want.perform(c); got != result {
			t.Errorf("after %v: %v returns %s; want %s", calls[:i], c, got, result)
		}
		expectState(t, m, want, calls[:i+1])
	}
}

// callsOf returns a call of each function with each amount.
func callsOf(amounts ...uint64) []call {
	calls := []call{{"Drop", 0}}
	for _, a := range amounts {
		calls = append(calls, call{"Grant", a}, call{"Take", a})
	}
	return calls
}

// sequences returns all sequences of the calls that have the length.
func sequences(calls []call, length int) [][]call {
	all := [][]call{{}}
	for range length {
		var next [][]call
		for _, sequence := range all {
			for _, c := range calls {
				next = append(next, append(slices.Clone(sequence), c))
			}
		}
		all = next
	}
	return all
}

// P11.1: a new meter has the balance 0 and totals 0.
func TestNew(t *testing.T) {
	m := meter.New()
	if m == nil {
		t.Fatal("New = nil")
	}
	if m.Balance() != 0 || m.Spent() != 0 || m.Totals() != (meter.Totals{}) {
		t.Errorf("New: balance %d, spent %d, %+v", m.Balance(), m.Spent(), m.Totals())
	}
	if m.Take(1) {
		t.Error("Take(1) from a new meter is true")
	}
	if !m.Take(0) {
		t.Error("Take(0) from a new meter is false")
	}
	if dropped := m.Drop(); dropped != 0 {
		t.Errorf("Drop of a new meter = %d", dropped)
	}
}

// P11.1 to P11.3: the example of the document.
func TestExample(t *testing.T) {
	m := meter.New()
	if got := m.Grant(10); got != 10 {
		t.Errorf("Grant(10) = %d; want 10", got)
	}
	if !m.Take(7) {
		t.Error("Take(7) = false")
	}
	if m.Spent() != 7 {
		t.Errorf("Spent = %d; want 7", m.Spent())
	}
	if got := m.Grant(5); got != 8 {
		t.Errorf("Grant(5) = %d; want 8", got)
	}
	if m.Balance() != 8 || m.Spent() != 0 {
		t.Errorf("Balance %d, Spent %d; want 8 and 0", m.Balance(), m.Spent())
	}
	if got, want := m.Totals(), (meter.Totals{Granted: 15, Taken: 7}); got != want {
		t.Errorf("Totals = %+v; want %+v", got, want)
	}
	if got := m.Drop(); got != 8 {
		t.Errorf("Drop = %d; want 8", got)
	}
	if got, want := m.Totals(), (meter.Totals{Granted: 15, Taken: 7, Dropped: 8}); got != want {
		t.Errorf("Totals = %+v; want %+v", got, want)
	}
}

// step is a call together with its result, and the balance and the spent weight that it leaves.
type step struct {
	call
	want           string
	balance, spent uint64
}

func expectSteps(t *testing.T, steps ...step) *meter.Meter {
	t.Helper()
	m := meter.New()
	for i, s := range steps {
		if got := s.perform(m); got != s.want {
			t.Errorf("call %d, %v, returns %s; want %s", i+1, s.call, got, s.want)
		}
		if m.Balance() != s.balance || m.Spent() != s.spent {
			t.Errorf("call %d, %v, leaves the balance %d with %d spent; want %d and %d", i+1, s.call, m.Balance(), m.Spent(), s.balance, s.spent)
		}
	}
	return m
}

// P11.1: both sides of the greatest balance; only the reduced limit is counted.
func TestGrantIsReduced(t *testing.T) {
	m := expectSteps(t,
		step{call{"Grant", top - 3}, "18446744073709551612", top - 3, 0},
		step{call{"Grant", 2}, "18446744073709551614", top - 1, 0},
		step{call{"Grant", 2}, "18446744073709551615", top, 0},
		step{call{"Grant", 1}, "18446744073709551615", top, 0},
		step{call{"Grant", top}, "18446744073709551615", top, 0},
		step{call{"Grant", 0}, "18446744073709551615", top, 0},
	)
	if got, want := m.Totals(), (meter.Totals{Granted: top}); got != want {
		t.Errorf("Totals = %+v; want %+v", got, want)
	}
	m.Take(5)
	if got := m.Grant(5); got != top {
		t.Errorf("Grant(5) = %d; want 2^64-1", got)
	}
	// The sum of all grants is 2^64+4.
	if got, want := m.Totals(), (meter.Totals{Granted: 4, Taken: 5}); got != want {
		t.Errorf("Totals = %+v; want %+v", got, want)
	}
	m.Take(4)
	if got := m.Grant(7); got != top {
		t.Errorf("Grant(7) = %d; want 2^64-1", got)
	}
	if got, want := m.Totals(), (meter.Totals{Granted: 8, Taken: 9}); got != want {
		t.Errorf("Totals = %+v; want %+v", got, want)
	}
}

// P11.1: each of the totals is counted modulo 2^64.
func TestTotalsWrapAround(t *testing.T) {
	m := meter.New()
	for range 3 {
		m.Grant(top)
		if !m.Take(top) {
			t.Error("Take of the whole balance is false")
		}
	}
	if got, want := m.Totals(), (meter.Totals{Granted: top - 2, Taken: top - 2}); got != want {
		t.Errorf("Totals = %+v; want %+v", got, want)
	}
	for range 5 {
		m.Grant(top)
		if got := m.Drop(); got != top {
			t.Errorf("Drop = %d; want 2^64-1", got)
		}
	}
	if got, want := m.Totals(), (meter.Totals{Granted: top - 7, Taken: top - 2, Dropped: top - 4}); got != want {
		t.Errorf("Totals = %+v; want %+v", got, want)
	}
	if m.Balance() != 0 || m.Take(1) {
		t.Errorf("the balance is %d", m.Balance())
	}
}

// P11.2 and P11.3: both sides of the balance; a weight that is refused changes nothing, and Drop is not spent.
func TestTakeAndDrop(t *testing.T) {
	m := expectSteps(t,
		step{call{"Take", 1}, "false", 0, 0},
		step{call{"Take", 0}, "true", 0, 0},
		step{call{"Grant", 10}, "10", 10, 0},
		step{call{"Take", 11}, "false", 10, 0},
		step{call{"Take", top}, "false", 10, 0},
		step{call{"Take", 4}, "true", 6, 4},
		step{call{"Take", 7}, "false", 6, 4},
		step{call{"Take", 1}, "true", 5, 5},
		step{call{"Drop", 0}, "5", 0, 5},
		step{call{"Drop", 0}, "0", 0, 5},
		step{call{"Take", 1}, "false", 0, 5},
		step{call{"Grant", 0}, "0", 0, 0},
		step{call{"Grant", 6}, "6", 6, 0},
		step{call{"Take", 6}, "true", 0, 6},
		step{call{"Take", 0}, "true", 0, 6},
		step{call{"Grant", 3}, "3", 3, 0},
		step{call{"Drop", 0}, "3", 0, 0},
	)
	if got, want := m.Totals(), (meter.Totals{Granted: 19, Taken: 11, Dropped: 8}); got != want {
		t.Errorf("Totals = %+v; want %+v", got, want)
	}
}

// P11.1 to P11.4: all short sequences of calls with small amounts, and with amounts at which sums wrap around.
func TestAllShortSequences(t *testing.T) {
	for _, calls := range [][]call{
		callsOf(0, 1, 2),
		callsOf(1, 1<<63-1, 1<<63),
		callsOf(1, top-1, top),
	} {
		for _, sequence := range sequences(calls, 5) {
			expectCalls(t, sequence)
		}
	}
}

// P11.1 to P11.4: long sequences of calls.
func TestRandomSequences(t *testing.T) {
	random := rand.New(rand.NewSource(11))
	for range 300 {
		width := random.Intn(64)
		calls := make([]call, 100)
		for i := range calls {
			amount := random.Uint64() >> width
			// Few calls are Drop, so that balances grow.
			switch n := random.Intn(20); {
			case n < 8:
				calls[i] = call{"Grant", amount}
			case n < 19:
				calls[i] = call{"Take", amount >> random.Intn(3)}
			default:
				calls[i] = call{"Drop", 0}
			}
		}
		expectCalls(t, calls)
	}
}

// P11.1: a meter counts any number of grants.
func TestManyGrants(t *testing.T) {
	m := meter.New()
	for i := range uint64(100000) {
		if got := m.Grant(3); got != 3*i+3-i {
			t.Fatalf("Grant %d = %d; want %d", i+1, got, 3*i+3-i)
		}
		if !m.Take(1) || m.Spent() != 1 {
			t.Fatalf("after Grant %d, Spent = %d", i+1, m.Spent())
		}
	}
	if got, want := m.Totals(), (meter.Totals{Granted: 300000, Taken: 100000}); got != want {
		t.Errorf("Totals = %+v; want %+v", got, want)
	}
}

// All methods of a nil meter return zero values.
func TestNil(t *testing.T) {
	var m *meter.Meter
	for _, amount := range []uint64{0, 1, top} {
		if got := m.Grant(amount); got != 0 {
			t.Errorf("Grant(%d) = %d", amount, got)
		}
		if m.Take(amount) {
			t.Errorf("Take(%d) = true", amount)
		}
	}
	if m.Drop() != 0 || m.Balance() != 0 || m.Spent() != 0 || m.Totals() != (meter.Totals{}) {
		t.Errorf("Drop %d, Balance %d, Spent %d, Totals %+v", m.Drop(), m.Balance(), m.Spent(), m.Totals())
	}
}

// P2: meters are independent of each other, and a result of Totals is not part of its meter.
func TestMetersAreIndependent(t *testing.T) {
	first, second := meter.New(), meter.New()
	first.Grant(10)
	first.Take(3)
	if second.Balance() != 0 || second.Spent() != 0 || second.Totals() != (meter.Totals{}) {
		t.Errorf("a meter has changed with another one: %d, %+v", second.Balance(), second.Totals())
	}
	totals := first.Totals()
	totals.Granted, totals.Taken, totals.Dropped = 1, 1, 1
	if got, want := first.Totals(), (meter.Totals{Granted: 10, Taken: 3}); got != want || first.Balance() != 7 {
		t.Errorf("a change of the result made Totals %+v and Balance %d", got, first.Balance())
	}
}

// Rule 6: the functions of the package may be called concurrently.
func TestConcurrent(t *testing.T) {
	var workers sync.WaitGroup
	for i := range uint64(8) {
		workers.Go(func() {
			m := meter.New()
			for n := range uint64(200) {
				if m.Grant(i+1) != n+i+1 || !m.Take(i) || m.Spent() != i || m.Balance() != n+1 {
					t.Errorf("worker %d: Balance = %d, Spent = %d", i, m.Balance(), m.Spent())
					return
				}
			}
		})
	}
	workers.Wait()
}
