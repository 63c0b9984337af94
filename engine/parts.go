package engine

import (
	"egress/api"
	"egress/bucket"
	"egress/clock"
	"egress/cursor"
	"egress/lanes"
	"egress/ledger"
	"egress/meter"
	"egress/partial"
	"egress/registry"
	"egress/ring"
	"egress/status"
)

// The parts do not embed the objects of other packages, because the exported
// methods of these would be promoted to methods of an engine, and everyone
// could change its state with them.

// times are the current block and epoch.
type times struct{ clock *clock.Clock }

func newTimes(c api.Config) times {
	return times{clock: clock.New(c.EpochLen)}
}

func (t *times) block() int { return t.clock.Block() }

func (t *times) epoch() int { return t.clock.Epoch() }

// advance begins the next block, and reports whether it is a boundary.
func (t *times) advance() bool { return t.clock.Tick() }

// stakes are the validators with their balances. Each amount that is added to
// a balance, or taken from it, is also recorded by the ledger.
type stakes struct {
	registry *registry.Registry
	ledger   *ledger.Ledger
	cursor   *cursor.Cursor
}

func newStakes(c api.Config) stakes {
	return stakes{
		registry: registry.New(c.Capacity),
		ledger:   ledger.New(c.SupplyCap),
		cursor:   cursor.New(),
	}
}

// add deposits an amount for a new validator, for which there has to be
// capacity, and returns its index.
func (s *stakes) add(amount uint64) (int, api.Errno) {
	if code := s.ledger.Deposit(amount); code != api.OK {
		return -1, code
	}
	return s.registry.Add(api.Validator{
		Balance:  amount,
		Status:   api.Pending,
		Request:  api.NoEpoch,
		Exit:     api.NoEpoch,
		Withdraw: api.NoEpoch,
		Deadline: api.NoEpoch,
	})
}

// pay replaces a validator by what it is after the payment of an amount.
func (s *stakes) pay(i int, v api.Validator, amount uint64) {
	s.registry.Set(i, v)
	s.ledger.Pay(amount)
}

// burn replaces a validator by what it is after a penalty of an amount.
func (s *stakes) burn(i int, v api.Validator, amount uint64) {
	s.registry.Set(i, v)
	s.ledger.Burn(amount)
}

// pass changes the status of validators by an event that applies to all of
// them.
func (s *stakes) pass(event int, indices ...int) {
	for _, i := range indices {
		v, _ := s.registry.Get(i)
		v.Status, _ = status.Next(v.Status, event)
		s.registry.Set(i, v)
	}
}

// with returns the indices of the validators with a status, in ascending
// order. As the registry has counted them, the search ends with the last one,
// or does not begin.
func (s *stakes) with(status int) []int {
	var found []int
	for i := 0; len(found) < s.registry.Count(status); i++ {
		if v, _ := s.registry.Get(i); v.Status == status {
			found = append(found, i)
		}
	}
	return found
}

// balances returns the balance of each validator.
func (s *stakes) balances() []uint64 {
	l := make([]uint64, s.registry.Len())
	for i := range l {
		v, _ := s.registry.Get(i)
		l[i] = v.Balance
	}
	return l
}

// sweep moves the cursor, and returns which validators it found to be paid,
// and its number of visits.
func (s *stakes) sweep(visits, pays int) ([]int, int) {
	ready := make([]bool, s.registry.Len())
	for _, i := range s.with(api.Withdrawable) {
		ready[i] = true
	}
	return s.cursor.Sweep(ready, visits, pays)
}

// exits are the exits that wait for their epoch, with the churn that is left
// for them, and those whose balance is held.
type exits struct {
	lanes     *lanes.Lanes
	meter     *meter.Meter
	unbonding *bucket.Ring
}

func newExits(c api.Config) exits {
	return exits{
		lanes:     lanes.New(c.QueueSize),
		meter:     meter.New(),
		unbonding: bucket.New(c.RingLen),
	}
}

// full reports whether no further exit of a class can wait.
func (x *exits) full(class int) bool { return x.lanes.Free(class) == 0 }

// hold keeps the balance of a validator until its Withdraw.
func (x *exits) hold(i int, v api.Validator) {
	x.unbonding.Put(v.Withdraw, i)
}

// requests are the queues of everything else that waits for a boundary or a
// block.
type requests struct {
	pending  *ring.Ring[int]
	merges   *ring.Ring[[2]int]
	partials *ring.Ring[partial.Request]
}

func newRequests(c api.Config) requests {
	return requests{
		pending:  ring.New[int](c.QueueSize),
		merges:   ring.New[[2]int](c.QueueSize),
		partials: ring.New[partial.Request](c.QueueSize),
	}
}

// nextMerges removes and returns the first pairs.
func (r *requests) nextMerges(most int) [][2]int { return first(r.merges, most) }

// nextPartials removes and returns the first requests of partial withdrawals.
func (r *requests) nextPartials(most int) []partial.Request { return first(r.partials, most) }

// first removes and returns the first elements of a queue.
func first[T any](queue *ring.Ring[T], most int) []T {
	l := make([]T, min(most, queue.Len()))
	for i := range l {
		l[i], _ = queue.Pop()
	}
	return l
}
