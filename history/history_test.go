package history_test

import (
	"math"
	"slices"
	"sync"
	"testing"

	"egress/api"
	"egress/config"
	"egress/engine"
	"egress/history"
	"egress/script"
)

// accepted is the receipt of an accepted operation that is not a tick.
func accepted(i, epoch, deadline int) api.Receipt {
	return api.Receipt{Index: i, Epoch: epoch, Deadline: deadline}
}

// rejected is a receipt that has everything, except that it was not accepted.
func rejected(i, epoch, deadline int) api.Receipt {
	return api.Receipt{
		Code: api.ErrStatus, Index: i, Epoch: epoch, Deadline: deadline,
		Assigned: []api.Assignment{{Index: i, Class: api.Voluntary, Epoch: epoch + 1}},
		Payments: []api.Payment{{Index: i, Amount: 9, Full: true}},
	}
}

// in is the receipt of a tick in an epoch.
func in(epoch int) api.Receipt {
	return api.Receipt{Kind: api.Tick, Index: -1, Epoch: epoch, Deadline: api.NoEpoch}
}

func assigning(r api.Receipt, i, class, epoch int) api.Receipt {
	r.Assigned = append(slices.Clone(r.Assigned), api.Assignment{Index: i, Class: class, Epoch: epoch})
	return r
}

func paying(r api.Receipt, i int, amount uint64, full bool) api.Receipt {
	r.Payments = append(slices.Clone(r.Payments), api.Payment{Index: i, Amount: amount, Full: full})
	return r
}

// add adds an operation of a kind.
func add(l *history.Log, kind int, r api.Receipt) {
	l.Add(api.Op{Kind: kind}, r)
}

func expectExit(t *testing.T, l *history.Log, i int, want history.Exit) {
	t.Helper()
	if got, ok := l.Exit(i); got != want || !ok {
		t.Errorf("Exit(%d) = %+v, %v; want %+v, true", i, got, ok, want)
	}
}

func expectNoExit(t *testing.T, l *history.Log, indices ...int) {
	t.Helper()
	for _, i := range indices {
		if got, ok := l.Exit(i); got != (history.Exit{}) || ok {
			t.Errorf("Exit(%d) = %+v, %v; want none", i, got, ok)
		}
	}
}

func expectOrder(t *testing.T, l *history.Log, class int, want ...int) {
	t.Helper()
	if got := l.Order(class); !slices.Equal(got, want) {
		t.Errorf("Order(%d) = %v; want %v", class, got, want)
	}
}

func expectLate(t *testing.T, l *history.Log, want ...int) {
	t.Helper()
	if got := l.Late(); !slices.Equal(got, want) {
		t.Errorf("Late() = %v; want %v", got, want)
	}
}

// expectEmpty expects that a log has no answer to any question.
func expectEmpty(t *testing.T, l *history.Log) {
	t.Helper()
	for _, n := range []int{0, 1, 2, 3, -1, math.MinInt, math.MaxInt} {
		expectNoExit(t, l, n)
		expectOrder(t, l, n)
		if p, a := l.Payments(n), l.Assigned(n); len(p) != 0 || len(a) != 0 {
			t.Errorf("Payments(%d) = %v, Assigned(%d) = %v", n, p, n, a)
		}
	}
	expectLate(t, l)
}

// P23.1: a new log is empty.
func TestNew(t *testing.T) {
	l := history.New()
	if l == nil || l.Len() != 0 {
		t.Fatal("not an empty log")
	}
	expectEmpty(t, l)
}

// On a nil log, Add has no effect, and the other methods return zero values.
func TestNilLog(t *testing.T) {
	var l *history.Log
	add(l, api.Exit, accepted(3, 1, 8))
	add(l, api.Slash, rejected(3, 1, 8))
	l.Add(api.Op{}, api.Receipt{})
	if l.Len() != 0 {
		t.Error(l.Len())
	}
	expectEmpty(t, l)
}

// P23.1: Len counts all pairs. Those that were not accepted matter for nothing else.
func TestRejected(t *testing.T) {
	l := history.New()
	for n, code := range []api.Errno{1, 2, 8, 13, 14, -1, math.MinInt, math.MaxInt, 1 << 32} {
		for kind := -1; kind <= 8; kind++ {
			r := rejected(3, 7, 5)
			r.Code = code
			add(l, kind, r)
		}
		if l.Len() != 10*(n+1) {
			t.Errorf("Len() = %d", l.Len())
		}
	}
	expectEmpty(t, l)

	add(l, api.Exit, accepted(3, 1, 8))
	want := history.Exit{Class: api.Voluntary, Request: 1, Deadline: 8, Assigned: -1, Slashed: -1, Paid: -1}
	expectExit(t, l, 3, want)
	for kind := -1; kind <= 8; kind++ {
		add(l, kind, rejected(3, 99, 5))
		add(l, kind, rejected(4, 99, 5))
	}
	expectExit(t, l, 3, want)
	expectNoExit(t, l, 4)
	expectLate(t, l)
	if l.Len() != 111 {
		t.Errorf("Len() = %d", l.Len())
	}
	add(l, api.Malformed, api.Receipt{Index: math.MinInt, Epoch: math.MinInt})
	if l.Len() != 112 {
		t.Errorf("Len() = %d", l.Len())
	}
}

// P23.2: only an Exit, an Eject and a Slash record an exit; the kind of the operation counts, and the index of the receipt.
func TestExitKinds(t *testing.T) {
	for _, kind := range someKinds {
		l := history.New()
		l.Add(api.Op{Kind: kind, Index: 5, Target: 5, Amount: 5}, accepted(3, 1, 8))
		expectNoExit(t, l, 0, 1, 2, 4, 5, 8, -1)
		want := history.Exit{Request: 1, Deadline: 8, Assigned: -1, Slashed: -1, Paid: -1}
		switch kind {
		case api.Exit:
			want.Class = api.Voluntary
		case api.Eject:
			want.Class = api.Forced
		case api.Slash:
			want.Class, want.Slashed = api.Forced, 1
		default:
			expectNoExit(t, l, 3)
			continue
		}
		expectExit(t, l, 3, want)
	}
	l := history.New()
	l.Add(api.Op{Kind: api.Eject, Index: 3}, api.Receipt{Kind: api.Exit, Index: 3})
	l.Add(api.Op{Kind: api.Deposit}, api.Receipt{Kind: api.Exit, Index: 4})
	expectExit(t, l, 3, history.Exit{Class: api.Forced, Assigned: -1, Slashed: -1, Paid: -1})
	expectNoExit(t, l, 4)
}

// P23.2: the first accepted operation records the exit; a later one does not change its class, request or deadline.
func TestFirstOperation(t *testing.T) {
	l := history.New()
	add(l, api.Exit, rejected(3, 1, 6))
	add(l, api.Eject, accepted(3, 2, 7))
	add(l, api.Exit, accepted(3, 3, 8))
	add(l, api.Eject, accepted(3, 4, 9))
	want := history.Exit{Class: api.Forced, Request: 2, Deadline: 7, Assigned: -1, Slashed: -1, Paid: -1}
	expectExit(t, l, 3, want)
	add(l, api.Slash, accepted(3, 5, -1))
	want.Slashed = 5
	expectExit(t, l, 3, want)
	add(l, api.Slash, accepted(3, 6, -1))
	expectExit(t, l, 3, want)
	expectOrder(t, l, api.Forced, 3)
	expectOrder(t, l, api.Voluntary)
}

// P23.2: an assignment counts if it is the first one in an accepted receipt of an operation after that of the exit.
func TestAssignedOfExit(t *testing.T) {
	l := history.New()
	add(l, api.Tick, assigning(in(0), 3, api.Voluntary, 1))
	add(l, api.Exit, assigning(accepted(3, 1, 8), 3, api.Voluntary, 2))
	want := history.Exit{Class: api.Voluntary, Request: 1, Deadline: 8, Assigned: -1, Slashed: -1, Paid: -1}
	expectExit(t, l, 3, want)
	add(l, api.Tick, assigning(in(1), 4, api.Voluntary, 3))
	add(l, api.Tick, rejected(3, 3, -1))
	expectExit(t, l, 3, want)
	add(l, api.Deposit, assigning(assigning(in(2), 3, api.Forced, 5), 3, api.Voluntary, 6))
	want.Assigned = 5
	expectExit(t, l, 3, want)
	add(l, api.Tick, assigning(in(3), 3, api.Voluntary, 7))
	expectExit(t, l, 3, want)
	expectNoExit(t, l, 4)
}

// P23.2: a Full payment counts if it is the first one in any accepted receipt, also before the exit.
func TestPaidOfExit(t *testing.T) {
	l := history.New()
	add(l, api.Exit, accepted(3, 1, 8))
	add(l, api.Tick, paying(paying(in(2), 3, 4, false), 4, 5, true))
	add(l, api.Tick, rejected(3, 3, -1))
	want := history.Exit{Class: api.Voluntary, Request: 1, Deadline: 8, Assigned: -1, Slashed: -1, Paid: -1}
	expectExit(t, l, 3, want)
	add(l, api.Tick, paying(paying(paying(in(4), 3, 6, false), 3, 7, true), 3, 8, true))
	want.Paid, want.Amount = 4, 7
	expectExit(t, l, 3, want)
	add(l, api.Tick, paying(in(5), 3, 9, true))
	expectExit(t, l, 3, want)

	expectNoExit(t, l, 4)
	add(l, api.Slash, paying(accepted(4, 6, -1), 4, 10, true))
	expectExit(t, l, 4, history.Exit{Class: api.Forced, Request: 6, Deadline: -1, Assigned: -1, Slashed: 6, Paid: 2, Amount: 5})

	add(l, api.Eject, paying(accepted(5, 7, 9), 5, 11, true))
	expectExit(t, l, 5, history.Exit{Class: api.Forced, Request: 7, Deadline: 9, Assigned: -1, Slashed: -1, Paid: 7, Amount: 11})
}

// P23.2: an event in the epoch NoEpoch, or a payment of 0, is the first one, too.
func TestFirstEventWithoutEpoch(t *testing.T) {
	l := history.New()
	add(l, api.Slash, accepted(3, api.NoEpoch, 8))
	add(l, api.Tick, paying(assigning(in(api.NoEpoch), 3, api.Forced, api.NoEpoch), 3, 0, true))
	add(l, api.Slash, accepted(3, 5, 9))
	add(l, api.Tick, paying(assigning(in(6), 3, api.Forced, 7), 3, 8, true))
	expectExit(t, l, 3, history.Exit{Class: api.Forced, Request: -1, Deadline: 8, Assigned: -1, Slashed: -1, Paid: -1})
}

// P23.3: Payments has all payments to a validator in order, and Assigned all assignments to an epoch, whether there was an exit or not.
func TestPaymentsAndAssigned(t *testing.T) {
	l := history.New()
	add(l, api.Tick, assigning(assigning(assigning(in(1), 5, api.Forced, 2), 6, api.Voluntary, 3), 7, 9, 2))
	add(l, api.Tick, rejected(5, 1, -1))
	add(l, api.Partial, assigning(assigning(in(1), 5, api.Voluntary, 2), 6, api.Voluntary, 1))
	add(l, api.Tick, paying(paying(paying(in(1), 5, 10, false), 6, 11, false), 5, 9, true))
	add(l, api.Deposit, paying(paying(in(2), 5, 10, false), -1, math.MaxUint64, true))

	for epoch, want := range map[int][]api.Assignment{
		1:  {{Index: 6, Class: api.Voluntary, Epoch: 1}},
		2:  {{Index: 5, Class: api.Forced, Epoch: 2}, {Index: 7, Class: 9, Epoch: 2}, {Index: 5, Class: api.Voluntary, Epoch: 2}},
		3:  {{Index: 6, Class: api.Voluntary, Epoch: 3}},
		0:  nil,
		-1: nil,
	} {
		if got := l.Assigned(epoch); !slices.Equal(got, want) {
			t.Errorf("Assigned(%d) = %v; want %v", epoch, got, want)
		}
	}
	for i, want := range map[int][]api.Payment{
		5:  {{Index: 5, Amount: 10}, {Index: 5, Amount: 9, Full: true}, {Index: 5, Amount: 10}},
		6:  {{Index: 6, Amount: 11}},
		-1: {{Index: -1, Amount: math.MaxUint64, Full: true}},
		0:  nil,
		7:  nil,
	} {
		if got := l.Payments(i); !slices.Equal(got, want) {
			t.Errorf("Payments(%d) = %v; want %v", i, got, want)
		}
	}
	expectNoExit(t, l, 5, 6, 7, -1)
}

// P23.4 and P23.5: each validator has a place in the order of one class only.
func TestOrder(t *testing.T) {
	l := history.New()
	add(l, api.Exit, accepted(9, 1, 8))
	add(l, api.Eject, accepted(7, 1, 8))
	add(l, api.Exit, rejected(5, 1, 8))
	add(l, api.Exit, accepted(2, 1, 8))
	add(l, api.Slash, accepted(9, 1, -1))
	add(l, api.Slash, accepted(4, 1, -1))
	add(l, api.Eject, accepted(5, 1, 8))
	add(l, api.Exit, accepted(7, 2, 9))
	add(l, api.Eject, accepted(2, 2, 9))
	add(l, api.Exit, accepted(6, 2, 9))
	expectOrder(t, l, api.Voluntary, 9, 2, 6)
	expectOrder(t, l, api.Forced, 7, 4, 5)
	for _, class := range []int{2, -1, math.MinInt, math.MinInt + 1, math.MaxInt, 1 << 32, 1<<32 + 1} {
		expectOrder(t, l, class)
	}
}

// P23.4: a validator that is not paid is late from the first epoch after its deadline on; one that is paid then remains late.
func TestLate(t *testing.T) {
	l := history.New()
	for i, deadline := range []int{0: 10, 1: 11, 2: 9, 3: 8, 4: 10} {
		add(l, api.Exit+i%2, accepted(i, 1, deadline))
	}
	add(l, api.Tick, in(8))
	expectLate(t, l)
	add(l, api.Tick, in(9))
	expectLate(t, l, 3)
	add(l, api.Tick, paying(in(9), 3, 5, true))
	expectLate(t, l, 3)
	add(l, api.Tick, paying(in(9), 2, 5, true))
	add(l, api.Tick, paying(paying(in(10), 0, 5, true), 4, 5, false))
	expectLate(t, l, 3)
	add(l, api.Deposit, accepted(5, 11, -1))
	expectLate(t, l, 3, 4)
	add(l, api.Exit, rejected(6, 99, 99))
	expectLate(t, l, 3, 4)
	add(l, api.Tick, in(12))
	expectLate(t, l, 1, 3, 4)
}

// P23.4: the current epoch is that of the last accepted receipt of any operation, even if it is less than an earlier one.
func TestCurrentEpoch(t *testing.T) {
	for kind := -1; kind <= 8; kind++ {
		l := history.New()
		add(l, api.Exit, accepted(3, 1, 8))
		add(l, kind, accepted(20, 9, api.NoEpoch))
		expectLate(t, l, 3)
		add(l, kind, accepted(21, 8, api.NoEpoch))
		expectLate(t, l)
		add(l, kind, rejected(22, 9, api.NoEpoch))
		expectLate(t, l)
	}
}

// P23.4: without a deadline, or with a slashing, a validator is not late.
func TestNotLate(t *testing.T) {
	l := history.New()
	add(l, api.Exit, accepted(1, 0, api.NoEpoch))
	add(l, api.Slash, accepted(2, 0, 3))
	add(l, api.Exit, accepted(3, 0, 3))
	add(l, api.Exit, accepted(4, 0, 0))
	add(l, api.Slash, accepted(4, 0, api.NoEpoch))
	add(l, api.Exit, accepted(5, 0, math.MaxInt))
	add(l, api.Exit, accepted(6, 0, math.MinInt))
	add(l, api.Tick, paying(paying(paying(in(9), 1, 5, true), 2, 5, true), 4, 5, true))
	expectLate(t, l, 3, 6)
	add(l, api.Tick, in(math.MaxInt))
	expectLate(t, l, 3, 6)
	add(l, api.Slash, accepted(3, 10, api.NoEpoch))
	expectLate(t, l, 6)
}

// P23.4: the current epoch is 0 before there is an accepted receipt, and the late validators are in ascending order.
func TestLateOrder(t *testing.T) {
	l := history.New()
	indices := []int{5, math.MaxInt, -3, 0, math.MinInt, 4095, 2, 1}
	for n, i := range indices {
		add(l, api.Exit+n%2, accepted(i, 0, 0))
	}
	expectLate(t, l)
	add(l, api.Tick, in(1))
	slices.Sort(indices)
	expectLate(t, l, indices...)
}

// The example of the chapter.
func TestExample(t *testing.T) {
	l := history.New()
	l.Add(api.Op{Kind: api.Exit, Index: 3}, api.Receipt{Kind: api.Exit, Index: 3, Block: 4, Epoch: 1, Deadline: 8})
	expectOrder(t, l, api.Voluntary, 3)
	add(l, api.Tick, in(8))
	expectLate(t, l)
	add(l, api.Tick, in(9))
	expectLate(t, l, 3)
}

// A log keeps no memory of its arguments, and its results are not changed by each other or by later pairs.
func TestMemory(t *testing.T) {
	l := history.New()
	r := paying(paying(assigning(assigning(in(2), 3, 1, 4), 5, 1, 4), 3, 6, false), 3, 7, true)
	add(l, api.Exit, accepted(3, 1, 8))
	add(l, api.Exit, accepted(5, 1, 8))
	add(l, api.Tick, r)
	clear(r.Assigned)
	clear(r.Payments)
	add(l, api.Tick, in(9))

	payments, assigned, order, late := l.Payments(3), l.Assigned(4), l.Order(1), l.Late()
	expected := func() {
		t.Helper()
		if p := l.Payments(3); !slices.Equal(p, []api.Payment{{Index: 3, Amount: 6}, {Index: 3, Amount: 7, Full: true}}) {
			t.Errorf("payments %v", p)
		}
		if a := l.Assigned(4); !slices.Equal(a, []api.Assignment{{Index: 3, Class: 1, Epoch: 4}, {Index: 5, Class: 1, Epoch: 4}}) {
			t.Errorf("assignments %v", a)
		}
		expectOrder(t, l, 1, 3, 5)
		expectLate(t, l, 5)
	}
	expected()
	clear(payments[:cap(payments)])
	clear(assigned[:cap(assigned)])
	clear(order[:cap(order)])
	clear(late[:cap(late)])
	expected()

	payments, assigned, order, late = l.Payments(3), l.Assigned(4), l.Order(1), l.Late()
	add(l, api.Exit, paying(assigning(accepted(2, 9, 8), 8, 1, 4), 3, 9, true))
	if len(payments) != 2 || len(assigned) != 2 || len(order) != 2 || len(late) != 1 {
		t.Error("a result has changed")
	}
	payments, assigned = append(payments, api.Payment{}), append(assigned, api.Assignment{})
	if p, a := l.Payments(3), l.Assigned(4); p[2].Amount != 9 || a[2].Index != 8 {
		t.Error("an append to a result has changed the log")
	}
}

// P2 and Rule 6: logs are independent of each other, and different ones may be used concurrently.
func TestIndependence(t *testing.T) {
	var group sync.WaitGroup
	for n := range 8 {
		group.Go(func() {
			l := history.New()
			for i := range 50 {
				add(l, api.Exit, accepted(n*100+i, n, 10))
			}
			add(l, api.Tick, in(11))
			if order := l.Order(api.Voluntary); len(order) != 50 || order[0] != n*100 || l.Len() != 51 || len(l.Late()) != 50 {
				t.Error(order)
			}
		})
	}
	group.Wait()
}

// A long log is answered in a time that does not depend on all of its pairs for each question.
func TestLongLog(t *testing.T) {
	const count = 200000
	l := history.New()
	for n := range count {
		add(l, api.Tick, paying(assigning(in(n), n, api.Voluntary, n+1), n, uint64(n), true))
		add(l, api.Exit, accepted(n, n, n+1))
	}
	for n := range count {
		e, ok := l.Exit(n)
		if p, a := l.Payments(n), l.Assigned(n+1); !ok || e.Paid != n || len(p) != 1 || len(a) != 1 {
			t.Fatal(n, e, p, a)
		}
	}
	if l.Len() != 2*count || len(l.Order(api.Voluntary)) != count || len(l.Late()) != 0 {
		t.Error(l.Len())
	}
}

// The exits of a log are those of the engine whose receipts it has.
func TestEngine(t *testing.T) {
	c := config.Default()
	e, code := engine.New(c)
	if code != api.OK {
		t.Fatal(code)
	}
	l := history.New()
	play := func(text string) {
		for _, o := range script.Read(text) {
			l.Add(o, e.Apply(o))
		}
	}
	ticks := func(n int) {
		for _, o := range script.Ticks(n) {
			l.Add(o, e.Apply(o))
		}
	}
	play("deposit 16\ndeposit 20\ndeposit 24\ndeposit 28\ndeposit 64\n")
	ticks(40)
	play("exit 0\nexit 9\neject 1\nslash 2\nexit 3\neject 3\nslash 3\npartial 4 5\nfly")
	recorded := l.Len()
	ticks(100)
	if l.Len() != recorded+100 {
		t.Errorf("Len() = %d", l.Len())
	}
	expectOrder(t, l, api.Voluntary, 0, 3)
	expectOrder(t, l, api.Forced, 1, 2)
	expectLate(t, l)
	expectNoExit(t, l, 4, 9, -1)
	for i := range 4 {
		v, _ := e.Get(i)
		x, ok := l.Exit(i)
		if !ok || x.Request != v.Request || x.Assigned != v.Exit || x.Paid < v.Withdraw || (x.Slashed == 10) != v.Slashed {
			t.Errorf("exit %+v of the validator %+v", x, v)
		}
		if p := l.Payments(i); len(p) != 1 || p[0] != (api.Payment{Index: i, Amount: x.Amount, Full: true}) {
			t.Errorf("payments %v; exit %+v", p, x)
		}
		if a := l.Assigned(x.Assigned); !slices.Contains(a, api.Assignment{Index: i, Class: x.Class, Epoch: x.Assigned}) {
			t.Errorf("assignments %v; exit %+v", a, x)
		}
	}
	if p := l.Payments(4); !slices.Equal(p, []api.Payment{{Index: 4, Amount: 5}}) {
		t.Errorf("payments %v", p)
	}
}
