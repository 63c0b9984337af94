package engine

import (
	"egress/api"
	"egress/assign"
	"egress/deadline"
	"egress/merge"
	"egress/partial"
	"egress/penalty"
	"egress/receipt"
)

// operations returns what performs the operations of each kind.
func (e *Engine) operations() map[int]func(api.Op) api.Receipt {
	return map[int]func(api.Op) api.Receipt{
		api.Deposit:     e.deposit,
		api.Exit:        e.exit,
		api.Eject:       e.eject,
		api.Slash:       e.slash,
		api.Consolidate: e.consolidate,
		api.Partial:     e.withdraw,
		api.Tick:        e.tick,
	}
}

// reject returns the receipt of an operation that is not performed.
func (e *Engine) reject(o api.Op, code api.Errno) api.Receipt {
	return receipt.Reject(o, code, e.block(), e.epoch())
}

// accept returns the receipt of an operation that was performed.
func (e *Engine) accept(o api.Op, index, deadline int) api.Receipt {
	return receipt.Accept(o, index, deadline, e.block(), e.epoch())
}

// deposit adds a validator.
func (e *Engine) deposit(o api.Op) api.Receipt {
	switch {
	case o.Amount < e.config.MinDeposit, o.Amount > e.config.MaxDeposit:
		return e.reject(o, api.ErrAmount)
	case e.registry.Len() == e.config.Capacity:
		return e.reject(o, api.ErrFull)
	case e.pending.Free() == 0:
		return e.reject(o, api.ErrQueue)
	}
	index, code := e.add(o.Amount)
	if code != api.OK {
		return e.reject(o, code)
	}
	e.pending.Push(index)
	return e.accept(o, index, api.NoEpoch)
}

// exit accepts a voluntary exit.
func (e *Engine) exit(o api.Op) api.Receipt {
	return e.leave(o, api.Voluntary)
}

// eject accepts a forced exit.
func (e *Engine) eject(o api.Op) api.Receipt {
	return e.leave(o, api.Forced)
}

// leave accepts an exit of a class.
func (e *Engine) leave(o api.Op, class int) api.Receipt {
	v, ok := e.registry.Get(o.Index)
	switch {
	case !ok:
		return e.reject(o, api.ErrIndex)
	case v.Status != api.Active:
		return e.reject(o, api.ErrStatus)
	case e.full(class):
		return e.reject(o, api.ErrQueue)
	}
	by, ok := e.promise(v, class)
	if !ok {
		return e.reject(o, api.ErrOverflow)
	}
	// An active validator can be accepted in each epoch that has a deadline.
	v, _ = penalty.Accept(v, e.epoch())
	v.Deadline = by
	e.registry.Set(o.Index, v)
	e.lanes.Push(class, o.Index)
	return e.accept(o, o.Index, by)
}

// promise returns the deadline of a validator whose exit would be accepted
// now.
func (e *Engine) promise(v api.Validator, class int) (int, bool) {
	// No validator is in the queues twice, so the sum is at most the supply.
	ahead, _ := assign.Weight(e.balances(), e.lanes.Ahead(class)...)
	return deadline.Pay(e.epoch(), ahead, v.Balance, e.config)
}

// slash slashes a validator.
func (e *Engine) slash(o api.Op) api.Receipt {
	v, ok := e.registry.Get(o.Index)
	switch {
	case !ok:
		return e.reject(o, api.ErrIndex)
	// An active validator is not slashed yet and can be slashed, so none of
	// the errors of penalty.Slash would precede this one.
	case v.Status == api.Active && e.full(api.Forced):
		return e.reject(o, api.ErrQueue)
	}
	slashed, amount, code := penalty.Slash(v, e.epoch(), e.config)
	if code != api.OK {
		return e.reject(o, code)
	}
	e.burn(o.Index, slashed, amount)
	switch v.Status {
	case api.Active:
		e.lanes.Push(api.Forced, o.Index)
	case api.Withdrawable:
		e.hold(o.Index, slashed)
	}
	return e.accept(o, o.Index, api.NoEpoch)
}

// consolidate queues a consolidation.
func (e *Engine) consolidate(o api.Op) api.Receipt {
	if code := merge.Request(e.registry.All(), o.Index, o.Target, e.config); code != api.OK {
		return e.reject(o, code)
	}
	if e.merges.Push([2]int{o.Index, o.Target}) == 0 {
		return e.reject(o, api.ErrQueue)
	}
	return e.accept(o, o.Index, api.NoEpoch)
}

// withdraw queues a partial withdrawal.
func (e *Engine) withdraw(o api.Op) api.Receipt {
	r := partial.Request{Index: o.Index, Amount: o.Amount}
	if code := partial.Check(e.registry.All(), r); code != api.OK {
		return e.reject(o, code)
	}
	if e.partials.Push(r) == 0 {
		return e.reject(o, api.ErrQueue)
	}
	return e.accept(o, o.Index, api.NoEpoch)
}
