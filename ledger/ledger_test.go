package ledger_test

import (
	"fmt"
	"math"
	"math/big"
	"math/rand"
	"slices"
	"sync"
	"testing"

	"egress/api"
	"egress/ledger"
)

// call is a call of Deposit, Pay or Burn with an amount.
type call struct {
	name   string
	amount uint64
}

// perform makes the call on a ledger.
func (c call) perform(l *ledger.Ledger) api.Errno {
	switch c.name {
	case "Deposit":
		return l.Deposit(c.amount)
	case "Pay":
		return l.Pay(c.amount)
	}
	return l.Burn(c.amount)
}

// model is the specification of a ledger with integers of any size.
type model struct{ deposited, paid, burned, supplyCap *big.Int }

func integer(n uint64) *big.Int { return new(big.Int).SetUint64(n) }

func sum(a, b *big.Int) *big.Int { return new(big.Int).Add(a, b) }

func difference(a, b *big.Int) *big.Int { return new(big.Int).Sub(a, b) }

func newModel(supplyCap uint64) *model {
	return &model{new(big.Int), new(big.Int), new(big.Int), integer(supplyCap)}
}

func (m *model) supply() *big.Int {
	return difference(difference(m.deposited, m.paid), m.burned)
}

func (m *model) room() *big.Int {
	toCap := difference(m.supplyCap, m.supply())
	toLimit := difference(integer(math.MaxUint64), m.deposited)
	if toCap.Cmp(toLimit) < 0 {
		return toCap
	}
	return toLimit
}

func (m *model) totals() ledger.Totals {
	return ledger.Totals{Deposited: m.deposited.Uint64(), Paid: m.paid.Uint64(), Burned: m.burned.Uint64()}
}

// perform returns what the call has to return, and books it.
func (m *model) perform(c call) api.Errno {
	amount := integer(c.amount)
	if c.name == "Deposit" {
		if sum(m.supply(), amount).Cmp(m.supplyCap) > 0 {
			return api.ErrSupply
		}
		if sum(m.deposited, amount).Cmp(integer(math.MaxUint64)) > 0 {
			return api.ErrOverflow
		}
		m.deposited.Add(m.deposited, amount)
		return api.OK
	}
	if amount.Cmp(m.supply()) > 0 {
		return api.ErrAmount
	}
	if c.name == "Pay" {
		m.paid.Add(m.paid, amount)
	} else {
		m.burned.Add(m.burned, amount)
	}
	return api.OK
}

// expectState compares all that can be read from a ledger with the model.
func expectState(t *testing.T, l *ledger.Ledger, m *model, after any) {
	t.Helper()
	if got, want := l.Supply(), m.supply(); integer(got).Cmp(want) != 0 {
		t.Errorf("cap %v, after %v: Supply = %d; want %v", m.supplyCap, after, got, want)
	}
	if got, want := l.Room(), m.room(); integer(got).Cmp(want) != 0 {
		t.Errorf("cap %v, after %v: Room = %d; want %v", m.supplyCap, after, got, want)
	}
	if got, want := l.Totals(), m.totals(); got != want {
		t.Errorf("cap %v, after %v: Totals = %+v; want %+v", m.supplyCap, after, got, want)
	}
}

// expectCalls makes the calls on a new ledger and compares each result with the model.
func expectCalls(t *testing.T, supplyCap uint64, calls []call) {
	t.Helper()
	l, m := ledger.New(supplyCap), newModel(supplyCap)
	expectState(t, l, m, "New")
	for i, c := range calls {
		if got, want := c.perform(l), m.perform(c); got != want {
			t.Errorf("cap %d, after %v: %v returns %d; want %d", supplyCap, calls[:i], c, got, want)
		}
		expectState(t, l, m, calls[:i+1])
	}
}

// callsOf returns a call of each function with each amount.
func callsOf(amounts ...uint64) []call {
	var calls []call
	for _, name := range []string{"Deposit", "Pay", "Burn"} {
		for _, amount := range amounts {
			calls = append(calls, call{name, amount})
		}
	}
	return calls
}

// sequences returns the sequences of the calls that have the length.
func sequences(calls []call, length int) [][]call {
	all := [][]call{{}}
	for range length {
		var next [][]call
		for _, sequence := range all {
			for _, c := range calls {
				next = append(next, append(slices.Clone(sequence), c))
			}
		}
		all = next
	}
	return all
}

// caps are supply caps around 0, around the sums of small amounts, and around the limits of uint64.
var caps = []uint64{0, 1, 2, 3, 10, 1<<63 - 1, 1 << 63, 1<<63 + 1, math.MaxUint64 - 1, math.MaxUint64}

// P6.1 and P6.3: a new ledger has no amounts, and room up to its cap.
func TestNew(t *testing.T) {
	for _, supplyCap := range caps {
		l := ledger.New(supplyCap)
		if l == nil {
			t.Fatalf("New(%d) = nil", supplyCap)
		}
		if l.Totals() != (ledger.Totals{}) || l.Supply() != 0 || l.Room() != supplyCap {
			t.Errorf("New(%d): %+v, supply %d, room %d", supplyCap, l.Totals(), l.Supply(), l.Room())
		}
	}
}

// P6.3: the example of the document.
func TestExample(t *testing.T) {
	l := ledger.New(10)
	if l.Deposit(7) != api.OK || l.Pay(2) != api.OK {
		t.Fatal("a deposit of 7 or a payment of 2 is an error")
	}
	if l.Room() != 5 {
		t.Errorf("Room = %d; want 5", l.Room())
	}
}

// step is a call together with what it returns, and the room that it leaves.
type step struct {
	call
	want api.Errno
	room uint64
}

func expectSteps(t *testing.T, supplyCap uint64, steps ...step) {
	t.Helper()
	l := ledger.New(supplyCap)
	for i, s := range steps {
		if got := s.perform(l); got != s.want {
			t.Errorf("cap %d: call %d, %v, returns %d; want %d", supplyCap, i+1, s.call, got, s.want)
		}
		if got := l.Room(); got != s.room {
			t.Errorf("cap %d: call %d, %v, leaves the room %d; want %d", supplyCap, i+1, s.call, got, s.room)
		}
	}
}

// P6.1: both sides of the supply cap, which payments and penalties move away.
func TestSupplyCap(t *testing.T) {
	expectSteps(t, 10,
		step{call{"Deposit", 11}, api.ErrSupply, 10},
		step{call{"Deposit", 10}, api.OK, 0},
		step{call{"Deposit", 1}, api.ErrSupply, 0},
		step{call{"Deposit", 0}, api.OK, 0},
		step{call{"Pay", 4}, api.OK, 4},
		step{call{"Deposit", 5}, api.ErrSupply, 4},
		step{call{"Deposit", 4}, api.OK, 0},
		step{call{"Burn", 3}, api.OK, 3},
		step{call{"Deposit", 4}, api.ErrSupply, 3},
		step{call{"Deposit", 3}, api.OK, 0},
	)
	expectSteps(t, 0,
		step{call{"Deposit", 1}, api.ErrSupply, 0},
		step{call{"Deposit", math.MaxUint64}, api.ErrSupply, 0},
		step{call{"Deposit", 0}, api.OK, 0},
		step{call{"Pay", 1}, api.ErrAmount, 0},
		step{call{"Pay", 0}, api.OK, 0},
		step{call{"Burn", 0}, api.OK, 0},
	)
}

// P6.1: the supply plus the amount is compared as an integer of any size, and ErrSupply precedes ErrOverflow.
func TestSupplyWrapsAround(t *testing.T) {
	expectSteps(t, 10,
		step{call{"Deposit", 5}, api.OK, 5},
		step{call{"Deposit", math.MaxUint64}, api.ErrSupply, 5},
		step{call{"Deposit", math.MaxUint64 - 4}, api.ErrSupply, 5},
		step{call{"Deposit", math.MaxUint64 - 5}, api.ErrSupply, 5},
	)
	expectSteps(t, math.MaxUint64,
		step{call{"Deposit", math.MaxUint64}, api.OK, 0},
		step{call{"Deposit", 1}, api.ErrSupply, 0},
		step{call{"Deposit", math.MaxUint64}, api.ErrSupply, 0},
	)
}

// P6.1 and P6.3: both sides of the limit of all deposits, when the supply is far from its cap.
func TestOverflow(t *testing.T) {
	expectSteps(t, math.MaxUint64,
		step{call{"Deposit", math.MaxUint64 - 2}, api.OK, 2},
		step{call{"Pay", math.MaxUint64 - 2}, api.OK, 2},
		step{call{"Deposit", math.MaxUint64}, api.ErrOverflow, 2},
		step{call{"Deposit", 3}, api.ErrOverflow, 2},
		step{call{"Deposit", 2}, api.OK, 0},
		step{call{"Deposit", 1}, api.ErrOverflow, 0},
		step{call{"Deposit", math.MaxUint64 - 1}, api.ErrSupply, 0},
		step{call{"Deposit", math.MaxUint64 - 2}, api.ErrOverflow, 0},
		step{call{"Deposit", 0}, api.OK, 0},
		step{call{"Burn", 2}, api.OK, 0},
		step{call{"Burn", 1}, api.ErrAmount, 0},
	)
	expectSteps(t, 1<<63,
		step{call{"Deposit", 1 << 63}, api.OK, 0},
		step{call{"Burn", 1 << 63}, api.OK, 1<<63 - 1},
		step{call{"Deposit", 1 << 63}, api.ErrOverflow, 1<<63 - 1},
		step{call{"Deposit", 1<<63 + 1}, api.ErrSupply, 1<<63 - 1},
		step{call{"Deposit", 1<<63 - 1}, api.OK, 0},
	)
}

// P6.2: both sides of the supply, which payments and penalties share.
func TestPayAndBurn(t *testing.T) {
	expectSteps(t, 20,
		step{call{"Pay", 1}, api.ErrAmount, 20},
		step{call{"Burn", 1}, api.ErrAmount, 20},
		step{call{"Pay", 0}, api.OK, 20},
		step{call{"Burn", 0}, api.OK, 20},
		step{call{"Deposit", 20}, api.OK, 0},
		step{call{"Pay", 21}, api.ErrAmount, 0},
		step{call{"Burn", 21}, api.ErrAmount, 0},
		step{call{"Pay", math.MaxUint64}, api.ErrAmount, 0},
		step{call{"Burn", math.MaxUint64}, api.ErrAmount, 0},
		step{call{"Pay", 5}, api.OK, 5},
		step{call{"Burn", 16}, api.ErrAmount, 5},
		step{call{"Burn", 8}, api.OK, 13},
		step{call{"Pay", 8}, api.ErrAmount, 13},
		step{call{"Pay", 7}, api.OK, 20},
		step{call{"Pay", 1}, api.ErrAmount, 20},
		step{call{"Burn", 1}, api.ErrAmount, 20},
	)
}

// P6.3: each total is the sum of its own calls.
func TestTotals(t *testing.T) {
	l := ledger.New(1000)
	for _, c := range []call{{"Deposit", 100}, {"Pay", 7}, {"Burn", 20}, {"Deposit", 300}, {"Burn", 1}, {"Pay", 5}} {
		if got := c.perform(l); got != api.OK {
			t.Fatalf("%v returns %d", c, got)
		}
	}
	if got, want := l.Totals(), (ledger.Totals{Deposited: 400, Paid: 12, Burned: 21}); got != want {
		t.Errorf("Totals = %+v; want %+v", got, want)
	}
	if l.Supply() != 367 || l.Room() != 633 {
		t.Errorf("supply %d, room %d; want 367, 633", l.Supply(), l.Room())
	}
}

// P6.3: the totals that were returned are a copy.
func TestTotalsAreACopy(t *testing.T) {
	l := ledger.New(10)
	l.Deposit(7)
	totals := l.Totals()
	totals.Deposited, totals.Paid = 1, 1
	if got := l.Totals(); got != (ledger.Totals{Deposited: 7}) || l.Supply() != 7 {
		t.Errorf("a changed copy of the totals changed the ledger: %+v, supply %d", got, l.Supply())
	}
	totals = l.Totals()
	l.Pay(3)
	if totals != (ledger.Totals{Deposited: 7}) {
		t.Errorf("a payment changed a copy of the totals to %+v", totals)
	}
}

// P6.1 to P6.5: all short sequences of calls with small amounts, for small caps.
func TestSmallSequences(t *testing.T) {
	for _, supplyCap := range []uint64{0, 1, 3, 4} {
		for _, calls := range sequences(callsOf(0, 1, 2, 4), 4) {
			expectCalls(t, supplyCap, calls)
		}
	}
}

// P6.1 to P6.5: all short sequences of calls with amounts whose sums wrap around.
func TestLargeSequences(t *testing.T) {
	amounts := []uint64{1, 2, 1<<63 - 1, 1 << 63, math.MaxUint64 - 1, math.MaxUint64}
	for _, supplyCap := range caps {
		for _, calls := range sequences(callsOf(amounts...), 3) {
			expectCalls(t, supplyCap, calls)
		}
	}
}

// P6.4: a call that returns an error changes nothing, in a ledger that has all kinds of amounts.
func TestErrorsChangeNothing(t *testing.T) {
	booked := []call{{"Deposit", 1<<64 - 10}, {"Pay", 1 << 63}, {"Burn", 1 << 62}}
	supply := uint64(1<<62 - 10)
	for _, c := range []struct {
		call
		want api.Errno
	}{
		{call{"Deposit", 10}, api.ErrOverflow},
		{call{"Deposit", 1 << 63}, api.ErrOverflow},
		{call{"Deposit", math.MaxUint64}, api.ErrSupply},
		{call{"Pay", supply + 1}, api.ErrAmount},
		{call{"Pay", math.MaxUint64}, api.ErrAmount},
		{call{"Burn", supply + 1}, api.ErrAmount},
		{call{"Burn", math.MaxUint64}, api.ErrAmount},
	} {
		l, m := ledger.New(1<<64-5), newModel(1<<64-5)
		for _, b := range booked {
			if b.perform(l) != api.OK || m.perform(b) != api.OK {
				t.Fatalf("%v is an error", b)
			}
		}
		for range 3 {
			if got := c.perform(l); got != c.want {
				t.Errorf("%v returns %d; want %d", c.call, got, c.want)
			}
			expectState(t, l, m, c.call)
		}
	}
}

// expectRoom deposits amounts around the room of a ledger that the calls lead to.
func expectRoom(t *testing.T, supplyCap uint64, calls []call) {
	t.Helper()
	after := func() *ledger.Ledger {
		l := ledger.New(supplyCap)
		for _, c := range calls {
			c.perform(l)
		}
		return l
	}
	room := after().Room()
	for _, amount := range []uint64{0, 1, room / 2, room - 1, room, room + 1, room + 2, 1 << 63, math.MaxUint64 - room, math.MaxUint64} {
		l := after()
		if got := l.Deposit(amount); (got == api.OK) != (amount <= room) {
			t.Errorf("cap %d, after %v: Deposit(%d) returns %d with the room %d", supplyCap, calls, amount, got, room)
		}
	}
}

// P6.5: Deposit returns OK exactly if the amount does not exceed the room.
func TestRoom(t *testing.T) {
	for _, supplyCap := range caps {
		for _, calls := range sequences(callsOf(1, 5, 1<<63, math.MaxUint64), 3) {
			expectRoom(t, supplyCap, calls)
		}
	}
}

// P6.5: the deposits are the sum of the supply, the payments and the penalties, in long sequences of calls.
func TestLongSequences(t *testing.T) {
	random := rand.New(rand.NewSource(6))
	for _, supplyCap := range []uint64{100, 1 << 40, 1 << 60, math.MaxUint64} {
		l, m := ledger.New(supplyCap), newModel(supplyCap)
		for i := range 3000 {
			c := callsOf(random.Uint64()%50, random.Uint64()>>random.Intn(64), l.Room(), l.Supply()/2)[random.Intn(12)]
			if got, want := c.perform(l), m.perform(c); got != want {
				t.Fatalf("cap %d, call %d: %v returns %d; want %d", supplyCap, i+1, c, got, want)
			}
			expectState(t, l, m, fmt.Sprintf("call %d, %v", i+1, c))
			totals := l.Totals()
			rest := sum(integer(totals.Paid), integer(totals.Burned))
			if sum(integer(l.Supply()), rest).Cmp(integer(totals.Deposited)) != 0 {
				t.Fatalf("cap %d, call %d, %v: supply %d and %+v", supplyCap, i+1, c, l.Supply(), totals)
			}
		}
	}
}

func TestNilLedger(t *testing.T) {
	var l *ledger.Ledger
	for _, c := range callsOf(0, 1, 1<<63, math.MaxUint64) {
		if got := c.perform(l); got != api.ErrNil {
			t.Errorf("nil ledger: %v returns %d; want %d", c, got, api.ErrNil)
		}
	}
	if l.Supply() != 0 || l.Room() != 0 || l.Totals() != (ledger.Totals{}) {
		t.Errorf("nil ledger: supply %d, room %d, %+v", l.Supply(), l.Room(), l.Totals())
	}
}

// P2: ledgers that were created separately are independent of each other.
func TestIndependent(t *testing.T) {
	a, b := ledger.New(10), ledger.New(10)
	ma, mb := newModel(10), newModel(10)
	for _, c := range callsOf(7, 2) {
		c.perform(a)
		ma.perform(c)
	}
	b.Deposit(3)
	mb.perform(call{"Deposit", 3})
	expectState(t, a, ma, "calls of the first ledger")
	expectState(t, b, mb, "a deposit of 3 in the second ledger")
}

// Rule 6: the functions of the package may be called concurrently.
func TestConcurrent(t *testing.T) {
	var workers sync.WaitGroup
	for n := range 8 {
		workers.Go(func() {
			for range 50 {
				expectCalls(t, uint64(n)*5, callsOf(uint64(n), 3, 20))
			}
		})
	}
	workers.Wait()
}
