package engine

import (
	"egress/activate"
	"egress/api"
	"egress/assign"
	"egress/limit"
	"egress/merge"
	"egress/partial"
	"egress/penalty"
	"egress/status"
)

// tick begins the next block.
func (e *Engine) tick(o api.Op) api.Receipt {
	var assigned []api.Assignment
	if e.advance() {
		assigned = e.boundary()
	}
	parts, requests := e.payParts()
	wholes, visits := e.payWholes(e.config.Visits-requests, e.config.Payments-len(parts))
	r := e.accept(o, -1, api.NoEpoch)
	r.Assigned = assigned
	r.Payments = append(parts, wholes...)
	r.Visits = requests + visits
	return r
}

// boundary does what happens in the first block of an epoch only. It returns
// the exits that were assigned an epoch.
func (e *Engine) boundary() []api.Assignment {
	e.beginUnbonding()
	e.endUnbonding()
	churn := limit.Churn(e.registry.Active(), e.config.MinChurn, e.config.Quotient)
	weights := e.balances()
	assigned := e.assignExits(churn, weights)
	e.pass(status.Activate, activate.Step(e.pending, churn, weights)...)
	e.performMerges()
	return assigned
}

// beginUnbonding makes the validators leave whose exit epoch is reached.
func (e *Engine) beginUnbonding() {
	for _, i := range e.with(api.Exiting) {
		if v, _ := e.registry.Get(i); v.Exit == e.epoch() {
			e.pass(status.Leave, i)
		}
	}
}

// endUnbonding makes the balances withdrawable that were held until this
// epoch.
func (e *Engine) endUnbonding() {
	for _, i := range e.unbonding.Due(e.epoch()) {
		// A slashing postpones Withdraw, but leaves the validator where it is
		// in the unbonding ring.
		if v, _ := e.registry.Get(i); v.Withdraw > e.epoch() {
			e.hold(i, v)
		} else {
			e.pass(status.Ripen, i)
		}
	}
}

// assignExits assigns the next epoch to as many exits as the churn permits.
func (e *Engine) assignExits(churn uint64, weights []uint64) []api.Assignment {
	assigned := assign.Step(e.epoch(), e.lanes, e.meter, churn, weights)
	for _, a := range assigned {
		v, _ := e.registry.Get(a.Index)
		// A validator in the queues is exiting and has no exit epoch yet.
		v, _ = penalty.Assign(v, a.Epoch, e.config)
		e.registry.Set(a.Index, v)
		e.hold(a.Index, v)
	}
	return assigned
}

// performMerges performs the consolidations of an epoch.
func (e *Engine) performMerges() {
	pairs := e.nextMerges(e.config.Merges)
	// Most epochs have none, and should not copy all validators for it.
	if len(pairs) == 0 {
		return
	}
	after, _ := merge.Step(e.registry.All(), pairs, e.config)
	for _, pair := range pairs {
		for _, i := range pair {
			e.registry.Set(i, after[i])
		}
	}
}

// payParts pays the partial withdrawals of a block. It returns the payments,
// and for how many requests they are.
func (e *Engine) payParts() ([]api.Payment, int) {
	due := e.nextPartials(e.config.Partials)
	// Most blocks have none, too.
	if len(due) == 0 {
		return nil, 0
	}
	after, payments, requests := partial.Step(e.registry.All(), due, e.config)
	for _, p := range payments {
		e.pay(p.Index, after[p.Index], p.Amount)
	}
	return payments, requests
}

// payWholes pays the balances that the sweep of a block finds. It returns the
// payments and the number of visits.
func (e *Engine) payWholes(visits, pays int) ([]api.Payment, int) {
	found, made := e.sweep(visits, pays)
	var payments []api.Payment
	for _, i := range found {
		v, _ := e.registry.Get(i)
		// A withdrawable balance is not held any more.
		v, amount, _ := penalty.Pay(v, e.epoch())
		e.pay(i, v, amount)
		payments = append(payments, api.Payment{Index: i, Amount: amount, Full: true})
	}
	return payments, made
}
