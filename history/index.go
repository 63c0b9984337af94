package history

import (
	"slices"

	"egress/api"
)

// index contains what the accepted receipts say about exits. The first event
// of each kind is kept in a map of its own, because its epoch alone does not
// tell whether there was one: a receipt may contain any epoch, api.NoEpoch too.
type index struct {
	exits    map[int]Exit // as they were accepted
	order    []int        // the validators of the exits, the first one recorded first
	assigned map[int]int  // the epochs of the first assignments after the exits
	slashed  map[int]int  // the epochs of the first slashings
	paid     map[int]full // the first full payments, before or after the exits
}

// full is a full payment.
type full struct {
	epoch  int
	amount uint64
}

func newIndex() index {
	return index{
		exits:    map[int]Exit{},
		assigned: map[int]int{},
		slashed:  map[int]int{},
		paid:     map[int]full{},
	}
}

// record adds an accepted operation. Its assignments precede its exit, because
// only those count that are in the receipt of a later operation.
func (x *index) record(o api.Op, r api.Receipt) {
	for _, a := range r.Assigned {
		if _, ok := x.exits[a.Index]; ok {
			keepFirst(x.assigned, a.Index, a.Epoch)
		}
	}
	for _, p := range r.Payments {
		if p.Full {
			keepFirst(x.paid, p.Index, full{epoch: r.Epoch, amount: p.Amount})
		}
	}
	switch o.Kind {
	case api.Exit:
		x.accept(api.Voluntary, r)
	case api.Eject:
		x.accept(api.Forced, r)
	case api.Slash:
		x.accept(api.Forced, r)
		keepFirst(x.slashed, r.Index, r.Epoch)
	}
}

// accept adds the exit of a receipt, unless its validator has one.
func (x *index) accept(class int, r api.Receipt) {
	e := Exit{Class: class, Request: r.Epoch, Deadline: r.Deadline}
	if keepFirst(x.exits, r.Index, e) {
		x.order = append(x.order, r.Index)
	}
}

// exit returns the exit of a validator together with what happened to it.
func (x *index) exit(i int) (Exit, bool) {
	e, ok := x.exits[i]
	if !ok {
		return Exit{}, false
	}
	e.Assigned = epochOf(x.assigned, i)
	e.Slashed = epochOf(x.slashed, i)
	e.Paid = api.NoEpoch
	if p, ok := x.paid[i]; ok {
		e.Paid, e.Amount = p.epoch, p.amount
	}
	return e, true
}

// ofClass returns the validators whose exits have a class.
func (x *index) ofClass(class int) []int {
	var l []int
	for _, i := range x.order {
		if x.exits[i].Class == class {
			l = append(l, i)
		}
	}
	return l
}

// lateAt returns the validators that are late if an epoch is the current one.
func (x *index) lateAt(epoch int) []int {
	var l []int
	for _, i := range x.order {
		if e, _ := x.exit(i); isLate(e, epoch) {
			l = append(l, i)
		}
	}
	slices.Sort(l)
	return l
}

// isLate compares an exit with its deadline, which holds only if one was
// promised and the validator was not slashed.
func isLate(e Exit, epoch int) bool {
	holds := e.Deadline != api.NoEpoch && e.Slashed == api.NoEpoch
	return holds && (e.Paid > e.Deadline || e.Paid == api.NoEpoch && epoch > e.Deadline)
}

// keepFirst stores a value unless there is one, and reports whether it did.
func keepFirst[T any](m map[int]T, i int, v T) bool {
	if _, ok := m[i]; ok {
		return false
	}
	m[i] = v
	return true
}

// epochOf returns the epoch of an event, or api.NoEpoch if it did not happen.
func epochOf(m map[int]int, i int) int {
	if epoch, ok := m[i]; ok {
		return epoch
	}
	return api.NoEpoch
}
