package history_test

import (
	"math"
	"math/rand"
	"slices"
	"testing"

	"egress/api"
	"egress/history"
)

// pair is an operation with its receipt.
type pair struct {
	o api.Op
	r api.Receipt
}

// model is a specification of a log: each answer is searched in all pairs, as the chapter describes it.
type model []pair

func (m model) accepted() model {
	var l model
	for _, p := range m {
		if p.r.Code == api.OK {
			l = append(l, p)
		}
	}
	return l
}

func (m model) epoch() int {
	l := m.accepted()
	if len(l) == 0 {
		return 0
	}
	return l[len(l)-1].r.Epoch
}

// recorded is the place of the operation, among the accepted ones, that records the exit of a validator, or -1.
func (m model) recorded(i int) int {
	return slices.IndexFunc(m.accepted(), func(p pair) bool {
		return p.o.Kind >= 2 && p.o.Kind <= 4 && p.r.Index == i
	})
}

func (m model) exit(i int) (history.Exit, bool) {
	at := m.recorded(i)
	if at < 0 {
		return history.Exit{}, false
	}
	l := m.accepted()
	e := history.Exit{Request: l[at].r.Epoch, Deadline: l[at].r.Deadline, Assigned: -1, Slashed: -1, Paid: -1}
	if l[at].o.Kind == 2 {
		e.Class = 1
	}
	for k := len(l) - 1; k >= 0; k-- {
		for _, a := range slices.Backward(l[k].r.Assigned) {
			if k > at && a.Index == i {
				e.Assigned = a.Epoch
			}
		}
		if l[k].o.Kind == 4 && l[k].r.Index == i {
			e.Slashed = l[k].r.Epoch
		}
		for _, p := range slices.Backward(l[k].r.Payments) {
			if p.Full && p.Index == i {
				e.Paid, e.Amount = l[k].r.Epoch, p.Amount
			}
		}
	}
	return e, true
}

func (m model) payments(i int) []api.Payment {
	var l []api.Payment
	for _, p := range m.accepted() {
		for _, payment := range p.r.Payments {
			if payment.Index == i {
				l = append(l, payment)
			}
		}
	}
	return l
}

func (m model) assigned(epoch int) []api.Assignment {
	var l []api.Assignment
	for _, p := range m.accepted() {
		for _, a := range p.r.Assigned {
			if a.Epoch == epoch {
				l = append(l, a)
			}
		}
	}
	return l
}

func (m model) order(class int) []int {
	var l []int
	for k, p := range m.accepted() {
		if e, _ := m.exit(p.r.Index); m.recorded(p.r.Index) == k && e.Class == class {
			l = append(l, p.r.Index)
		}
	}
	return l
}

func (m model) late() []int {
	var l []int
	for _, i := range append(m.order(0), m.order(1)...) {
		e, _ := m.exit(i)
		if e.Deadline == -1 || e.Slashed != -1 {
			continue
		}
		if e.Paid > e.Deadline || (e.Paid == -1 && m.epoch() > e.Deadline) {
			l = append(l, i)
		}
	}
	slices.Sort(l)
	return l
}

// compare reports each answer of a log that differs from the specification.
func compare(t *testing.T, l *history.Log, m model, indices, epochs, classes []int) {
	t.Helper()
	if l.Len() != len(m) {
		t.Errorf("Len() = %d; want %d", l.Len(), len(m))
	}
	for _, i := range indices {
		got, ok := l.Exit(i)
		if want, recorded := m.exit(i); got != want || ok != recorded {
			t.Errorf("Exit(%d) = %+v, %v; want %+v, %v", i, got, ok, want, recorded)
		}
		if got, want := l.Payments(i), m.payments(i); !slices.Equal(got, want) {
			t.Errorf("Payments(%d) = %+v; want %+v", i, got, want)
		}
	}
	for _, epoch := range epochs {
		if got, want := l.Assigned(epoch), m.assigned(epoch); !slices.Equal(got, want) {
			t.Errorf("Assigned(%d) = %+v; want %+v", epoch, got, want)
		}
	}
	for _, class := range classes {
		if got, want := l.Order(class), m.order(class); !slices.Equal(got, want) {
			t.Errorf("Order(%d) = %v; want %v", class, got, want)
		}
	}
	if got, want := l.Late(), m.late(); !slices.Equal(got, want) {
		t.Errorf("Late() = %v; want %v", got, want)
	}
	if t.Failed() {
		t.Fatalf("after %+v", m)
	}
}

// The least bits of the greater numbers look like those of an index, an epoch, a class or a kind.
var (
	someIndices = []int{0, 1, 2, 3, 4, 5, -1, math.MinInt, math.MaxInt, 1 << 32, 1<<32 + 1}
	someEpochs  = []int{0, 1, 2, 3, 4, 5, -1, -2, math.MinInt, math.MaxInt, api.MaxEpoch, 1 << 32, 1<<32 + 2}
	someClasses = []int{0, 1, 2, -1, -2, math.MinInt, math.MinInt + 1, math.MaxInt, 1 << 32, 1<<32 + 1}
	someKinds   = []int{0, 1, 2, 2, 2, 3, 3, 4, 4, 5, 6, 7, 7, 7, 8, -1, -2, -4, math.MinInt, math.MinInt + 2, math.MaxInt, 1<<32 + 2, 1<<32 + 3, 1<<32 + 4}
	someCodes   = []api.Errno{0, 0, 0, 0, 0, 0, 1, 2, 8, 11, 13, 14, -1, math.MinInt, math.MaxInt, 1 << 32}
	someAmounts = []uint64{0, 1, 2, 32, 1 << 60, 1 << 63, math.MaxUint64}
)

func pick[T any](source *rand.Rand, l []T) T { return l[source.Intn(len(l))] }

// mostly picks one of the first elements, and one of all of them only seldom.
func mostly[T any](source *rand.Rand, l []T, first int) T {
	if source.Intn(8) != 0 {
		l = l[:first]
	}
	return pick(source, l)
}

// randomPair has an operation and a receipt that need not belong together.
func randomPair(source *rand.Rand) pair {
	o := api.Op{Kind: pick(source, someKinds), Index: pick(source, someIndices), Target: pick(source, someIndices), Amount: pick(source, someAmounts)}
	r := api.Receipt{
		Kind: o.Kind, Code: pick(source, someCodes), Index: mostly(source, someIndices, 6), Block: pick(source, someEpochs),
		Epoch: mostly(source, someEpochs, 7), Deadline: mostly(source, someEpochs, 7), Visits: source.Intn(9),
	}
	if source.Intn(8) == 0 {
		r.Kind = pick(source, someKinds)
	}
	for range source.Intn(4) {
		r.Assigned = append(r.Assigned, api.Assignment{Index: mostly(source, someIndices, 6), Class: mostly(source, someClasses, 2), Epoch: mostly(source, someEpochs, 7)})
	}
	for range source.Intn(4) {
		r.Payments = append(r.Payments, api.Payment{Index: mostly(source, someIndices, 6), Amount: pick(source, someAmounts), Full: source.Intn(2) == 0})
	}
	return pair{o: o, r: r}
}

// P23.1 to P23.5: a log answers as the specification after each of many random pairs.
func TestRandomPairs(t *testing.T) {
	source := rand.New(rand.NewSource(23))
	for range 2500 {
		l, m := history.New(), model(nil)
		for range source.Intn(14) {
			p := randomPair(source)
			l.Add(p.o, p.r)
			m = append(m, p)
			compare(t, l, m, someIndices, someEpochs, someClasses)
		}
	}
}

// P23.1 to P23.4: the same for operations that are accepted in ascending epochs.
func TestRandomRuns(t *testing.T) {
	source := rand.New(rand.NewSource(2323))
	for range 60 {
		l, m, epoch := history.New(), model(nil), 0
		for range 60 {
			p := randomPair(source)
			p.o.Kind = source.Intn(8)
			epoch += source.Intn(2)
			i := source.Intn(12)
			p.r = api.Receipt{Kind: p.o.Kind, Index: i, Epoch: epoch, Deadline: -1}
			switch p.o.Kind {
			case api.Exit, api.Eject:
				p.r.Deadline = epoch + source.Intn(9)
			case api.Tick:
				p.r.Index = -1
				p.r.Assigned = []api.Assignment{{Index: i, Class: source.Intn(2), Epoch: epoch + 1}}
				p.r.Payments = []api.Payment{{Index: source.Intn(12), Amount: 7}, {Index: source.Intn(12), Amount: uint64(epoch), Full: true}}
			}
			l.Add(p.o, p.r)
			m = append(m, p)
		}
		compare(t, l, m, []int{-1, 0, 1, 2, 3, 4, 5, 6, 7, 8, 9, 10, 11, 12}, []int{-1, 0, 1, 2, 5, 20, 30, 61}, []int{0, 1, 2})
	}
}
