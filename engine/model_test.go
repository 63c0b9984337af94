package engine_test

import (
	"math"
	"math/big"
	"slices"

	"egress/api"
	"egress/engine"
	"egress/partial"
)

// model is the specification of an engine, with the formulas of the chapters and without any of their packages. It has no unbonding ring: a balance is withdrawable from the epoch Withdraw on, wherever the validator is stored until then.
type model struct {
	c                       api.Config
	block                   int
	validators              []api.Validator
	deposited, paid, burned uint64
	pending                 []int
	queues                  [2][]int // forced and voluntary exits
	merges                  [][2]int
	partials                []partial.Request
	cursor                  int
	carry                   uint64
}

func (m *model) epoch() int { return m.block / m.c.EpochLen }

func (m *model) has(i int) bool { return i >= 0 && i < len(m.validators) }

func (m *model) isFull(length int) bool { return length >= m.c.QueueSize }

// stake is the sum of the balances of validators with one of the statuses.
func (m *model) stake(states ...int) uint64 {
	sum := uint64(0)
	for _, v := range m.validators {
		if slices.Contains(states, v.Status) {
			sum += v.Balance
		}
	}
	return sum
}

// apply is the specification of Apply.
func (m *model) apply(o api.Op) api.Receipt {
	index, deadline, code := -1, -1, api.ErrOp
	switch o.Kind {
	case 1:
		index, code = m.deposit(o.Amount)
	case 2:
		index, deadline, code = m.exit(o.Index, 1)
	case 3:
		index, deadline, code = m.exit(o.Index, 0)
	case 4:
		index, code = o.Index, m.slash(o.Index)
	case 5:
		index, code = o.Index, m.consolidate(o.Index, o.Target)
	case 6:
		index, code = o.Index, m.partial(o.Index, o.Amount)
	case 7:
		return m.tick()
	}
	if code != api.OK {
		index, deadline = -1, -1
	}
	return api.Receipt{Kind: o.Kind, Code: code, Index: index, Block: m.block, Epoch: m.epoch(), Deadline: deadline}
}

func (m *model) deposit(amount uint64) (int, api.Errno) {
	supply := m.deposited - m.paid - m.burned
	switch {
	case amount < m.c.MinDeposit || amount > m.c.MaxDeposit:
		return -1, api.ErrAmount
	case len(m.validators) >= m.c.Capacity:
		return -1, api.ErrFull
	case m.isFull(len(m.pending)):
		return -1, api.ErrQueue
	case supply+amount > m.c.SupplyCap:
		return -1, api.ErrSupply
	case m.deposited > math.MaxUint64-amount:
		return -1, api.ErrOverflow
	}
	m.deposited += amount
	m.validators = append(m.validators, api.Validator{Balance: amount, Status: 1, Request: -1, Exit: -1, Withdraw: -1, Deadline: -1})
	index := len(m.validators) - 1
	m.pending = append(m.pending, index)
	return index, api.OK
}

// deadline is the last epoch of chapter 18, or false if there is none.
func (m *model) deadline(ahead, weight uint64) (int, bool) {
	c := m.c
	boundaries := (ahead + weight + c.ForcedCap + c.MinChurn - 1) / c.MinChurn
	perBlock := min(c.Visits-c.Partials, c.Payments-c.Partials)
	blocks := (c.Capacity + perBlock - 1) / perBlock
	if boundaries > 1<<40 {
		return 0, false
	}
	by := m.epoch() + max(1, int(boundaries)) + 1 + c.Unbonding + (blocks-1)/c.EpochLen
	return by, by <= 1<<40
}

func (m *model) exit(i, class int) (int, int, api.Errno) {
	switch {
	case !m.has(i):
		return -1, -1, api.ErrIndex
	case m.validators[i].Status != 2:
		return -1, -1, api.ErrStatus
	case m.isFull(len(m.queues[class])):
		return -1, -1, api.ErrQueue
	}
	ahead := uint64(0)
	for before := range class + 1 {
		for _, j := range m.queues[before] {
			ahead += m.validators[j].Balance
		}
	}
	v := &m.validators[i]
	by, ok := m.deadline(ahead, v.Balance)
	if !ok {
		return -1, -1, api.ErrOverflow
	}
	v.Status, v.Request, v.Deadline = 3, m.epoch(), by
	m.queues[class] = append(m.queues[class], i)
	return i, by, api.OK
}

func (m *model) slash(i int) api.Errno {
	if !m.has(i) {
		return api.ErrIndex
	}
	v := &m.validators[i]
	switch {
	case v.Slashed:
		return api.ErrSlashed
	case v.Status == 1 || v.Status > 5:
		return api.ErrStatus
	case v.Status == 2 && m.isFull(len(m.queues[0])):
		return api.ErrQueue
	}
	product := new(big.Int).Mul(new(big.Int).SetUint64(v.Balance), new(big.Int).SetUint64(m.c.PenaltyNum))
	penalty := product.Div(product, new(big.Int).SetUint64(m.c.PenaltyDen)).Uint64()
	m.burned += penalty
	v.Balance -= penalty
	v.Slashed, v.Deadline = true, -1
	v.Withdraw = max(v.Withdraw, m.epoch()+m.c.SlashDelay)
	switch v.Status {
	case 2:
		v.Status, v.Request = 3, m.epoch()
		m.queues[0] = append(m.queues[0], i)
	case 5:
		v.Status = 4
	}
	return api.OK
}

// merging is the first error of a consolidation.
func (m *model) merging(src, dst int) api.Errno {
	switch {
	case !m.has(src) || !m.has(dst):
		return api.ErrIndex
	case src == dst:
		return api.ErrSame
	}
	a, b := m.validators[src], m.validators[dst]
	switch {
	case a.Status != 2 || b.Status != 2:
		return api.ErrStatus
	case a.Slashed || b.Slashed:
		return api.ErrSlashed
	case a.Balance+b.Balance > m.c.MaxBalance:
		return api.ErrAmount
	}
	return api.OK
}

func (m *model) consolidate(src, dst int) api.Errno {
	if code := m.merging(src, dst); code != api.OK {
		return code
	}
	if m.isFull(len(m.merges)) {
		return api.ErrQueue
	}
	m.merges = append(m.merges, [2]int{src, dst})
	return api.OK
}

func (m *model) partial(i int, amount uint64) api.Errno {
	switch {
	case !m.has(i):
		return api.ErrIndex
	case amount == 0:
		return api.ErrAmount
	case m.validators[i].Status != 2:
		return api.ErrStatus
	case m.isFull(len(m.partials)):
		return api.ErrQueue
	}
	m.partials = append(m.partials, partial.Request{Index: i, Amount: amount})
	return api.OK
}

func (m *model) tick() api.Receipt {
	m.block++
	r := api.Receipt{Kind: 7, Index: -1, Block: m.block, Epoch: m.epoch(), Deadline: -1}
	if m.block%m.c.EpochLen == 0 {
		m.ripen()
		churn := max(m.c.MinChurn, m.stake(2, 3)/m.c.Quotient)
		r.Assigned = m.assign(churn)
		m.activate(churn)
		m.merge()
	}
	m.payRequests(&r)
	m.payBalances(&r)
	return r
}

func (m *model) ripen() {
	for i := range m.validators {
		v := &m.validators[i]
		switch {
		case v.Status == 3 && v.Exit == m.epoch():
			v.Status = 4
		case v.Status == 4 && v.Withdraw <= m.epoch():
			v.Status = 5
		}
	}
}

func (m *model) assign(churn uint64) []api.Assignment {
	m.carry += min(churn, math.MaxUint64-m.carry)
	var assigned []api.Assignment
	for class := range m.queues {
		for len(m.queues[class]) > 0 {
			i := m.queues[class][0]
			v := &m.validators[i]
			if v.Balance > m.carry {
				return assigned
			}
			m.carry -= v.Balance
			m.queues[class] = m.queues[class][1:]
			v.Exit = m.epoch() + 1
			v.Withdraw = max(v.Withdraw, v.Exit+m.c.Unbonding)
			assigned = append(assigned, api.Assignment{Index: i, Class: class, Epoch: v.Exit})
		}
	}
	m.carry = 0
	return assigned
}

func (m *model) activate(churn uint64) {
	sum := uint64(0)
	for n := 0; len(m.pending) > 0; n++ {
		v := &m.validators[m.pending[0]]
		sum += v.Balance
		if n > 0 && sum > churn {
			return
		}
		v.Status = 2
		m.pending = m.pending[1:]
	}
}

func (m *model) merge() {
	for range min(m.c.Merges, len(m.merges)) {
		src, dst := m.merges[0][0], m.merges[0][1]
		m.merges = m.merges[1:]
		if m.merging(src, dst) == api.OK {
			m.validators[dst].Balance += m.validators[src].Balance
			m.validators[src].Balance, m.validators[src].Status = 0, 7
		}
	}
}

func (m *model) payRequests(r *api.Receipt) {
	for range min(m.c.Partials, len(m.partials)) {
		request := m.partials[0]
		m.partials = m.partials[1:]
		r.Visits++
		v := &m.validators[request.Index]
		if v.Status != 2 || v.Slashed || v.Balance <= m.c.MinBalance {
			continue
		}
		amount := min(request.Amount, v.Balance-m.c.MinBalance)
		v.Balance -= amount
		m.paid += amount
		r.Payments = append(r.Payments, api.Payment{Index: request.Index, Amount: amount})
	}
}

func (m *model) payBalances(r *api.Receipt) {
	visits, pays := min(m.c.Visits-r.Visits, len(m.validators)), m.c.Payments-len(r.Payments)
	for ; visits > 0 && pays > 0; visits-- {
		i := m.cursor % len(m.validators)
		m.cursor = (i + 1) % len(m.validators)
		r.Visits++
		v := &m.validators[i]
		if v.Status != 5 {
			continue
		}
		r.Payments = append(r.Payments, api.Payment{Index: i, Amount: v.Balance, Full: true})
		m.paid += v.Balance
		v.Balance, v.Status = 0, 6
		pays--
	}
}

// snapshot is the specification of Snapshot. The validators in the unbonding ring are those that have an exit epoch and are not withdrawable yet.
func (m *model) snapshot() engine.Snapshot {
	held := 0
	for _, v := range m.validators {
		if v.Status == 4 || v.Status == 3 && v.Exit != -1 {
			held++
		}
	}
	return engine.Snapshot{
		Block: m.block, Epoch: m.epoch(), Validators: m.validators,
		Deposited: m.deposited, Paid: m.paid, Burned: m.burned, Active: m.stake(2, 3),
		Pending: m.pending, Forced: m.queues[0], Voluntary: m.queues[1], Merges: m.merges, Partials: m.partials,
		Cursor: m.cursor, Carry: m.carry, Unbonding: held,
	}
}
