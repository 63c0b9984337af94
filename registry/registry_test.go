package registry_test

import (
	"math"
	"math/big"
	"math/rand"
	"runtime"
	"slices"
	"sync"
	"testing"

	"egress/api"
	"egress/registry"
)

// largest is the greatest capacity of a registry.
const largest = 4096

// model is the specification of a registry: a slice whose sums are computed with integers of any size when they are needed.
type model struct {
	capacity   int
	validators []api.Validator
}

// total returns the sum of the balances of those validators that belong to it.
func total(l []api.Validator, belongs func(api.Validator) bool) *big.Int {
	t := new(big.Int)
	for _, v := range l {
		if belongs(v) {
			t.Add(t, new(big.Int).SetUint64(v.Balance))
		}
	}
	return t
}

func every(api.Validator) bool { return true }

func live(v api.Validator) bool { return v.Status == api.Active || v.Status == api.Exiting }

// overflows reports whether the sum of all balances does not fit into a uint64.
func overflows(l []api.Validator) bool { return !total(l, every).IsUint64() }

func (m *model) add(v api.Validator) (int, api.Errno) {
	if len(m.validators) == m.capacity {
		return -1, api.ErrFull
	}
	after := append(slices.Clone(m.validators), v)
	if overflows(after) {
		return -1, api.ErrOverflow
	}
	m.validators = after
	return len(after) - 1, api.OK
}

func (m *model) get(i int) (api.Validator, bool) {
	if i < 0 || i >= len(m.validators) {
		return api.Validator{}, false
	}
	return m.validators[i], true
}

func (m *model) set(i int, v api.Validator) api.Errno {
	if _, ok := m.get(i); !ok {
		return api.ErrIndex
	}
	after := slices.Clone(m.validators)
	after[i] = v
	if overflows(after) {
		return api.ErrOverflow
	}
	m.validators = after
	return api.OK
}

func (m *model) count(status int) int {
	n := 0
	for _, v := range m.validators {
		if v.Status == status {
			n++
		}
	}
	return n
}

// pair is a registry with its specification.
type pair struct {
	registry *registry.Registry
	model    model
}

func newPair(t *testing.T, capacity int) *pair {
	t.Helper()
	p := &pair{registry.New(capacity), model{capacity: capacity}}
	if p.registry == nil {
		t.Fatalf("New(%d) = nil", capacity)
	}
	return p
}

func (p *pair) add(t *testing.T, v api.Validator) {
	t.Helper()
	want, wantErr := p.model.add(v)
	if got, err := p.registry.Add(v); got != want || err != wantErr {
		t.Fatalf("capacity %d: Add(%+v) = %d, %d; want %d, %d", p.model.capacity, v, got, err, want, wantErr)
	}
}

func (p *pair) set(t *testing.T, i int, v api.Validator) {
	t.Helper()
	want := p.model.set(i, v)
	if err := p.registry.Set(i, v); err != want {
		t.Fatalf("capacity %d: Set(%d, %+v) = %d; want %d", p.model.capacity, i, v, err, want)
	}
}

// statuses are those that there are, and others at both sides of them and at the limits of int.
var statuses = []int{math.MinInt, -4096, -1, 0, 1, 2, 3, 4, 5, 6, 7, 8, 9, 255, 256, 1 << 32, 1<<32 + 2, math.MaxInt}

// checkSums compares what takes no time that depends on the number of validators.
func (p *pair) checkSums(t *testing.T) {
	t.Helper()
	r, m := p.registry, &p.model
	if r.Len() != len(m.validators) {
		t.Fatalf("Len = %d; want %d", r.Len(), len(m.validators))
	}
	if want := total(m.validators, every); r.Total() != want.Uint64() {
		t.Fatalf("%+v: Total = %d; want %v", m.validators, r.Total(), want)
	}
	if want := total(m.validators, live); r.Active() != want.Uint64() {
		t.Fatalf("%+v: Active = %d; want %v", m.validators, r.Active(), want)
	}
	for _, status := range statuses {
		if got, want := r.Count(status), m.count(status); got != want {
			t.Fatalf("%+v: Count(%d) = %d; want %d", m.validators, status, got, want)
		}
	}
	n := len(m.validators)
	for _, i := range []int{math.MinInt, -n - 1, -n, -1, 0, 1, n / 2, n - 1, n, n + 1, m.capacity, largest, 1 << 32, math.MaxInt} {
		p.checkGet(t, i)
	}
}

func (p *pair) checkGet(t *testing.T, i int) {
	t.Helper()
	want, wantOK := p.model.get(i)
	if got, ok := p.registry.Get(i); got != want || ok != wantOK {
		t.Fatalf("%d validators: Get(%d) = %+v, %v; want %+v, %v", len(p.model.validators), i, got, ok, want, wantOK)
	}
}

// check compares all that can be read from the registry.
func (p *pair) check(t *testing.T) {
	t.Helper()
	p.checkSums(t)
	for i := range p.model.validators {
		p.checkGet(t, i)
	}
	if got := p.registry.All(); !slices.Equal(got, p.model.validators) {
		t.Fatalf("All = %+v; want %+v", got, p.model.validators)
	}
}

func (p *pair) clone(t *testing.T) *pair {
	t.Helper()
	c := newPair(t, p.model.capacity)
	for _, v := range p.model.validators {
		c.add(t, v)
	}
	return c
}

// holder is a validator with a status and a balance.
func holder(status int, balance uint64) api.Validator {
	return api.Validator{Status: status, Balance: balance, Request: -1, Exit: -1, Withdraw: -1, Deadline: -1}
}

// P7.1: both sides of the limits of the capacity.
func TestNew(t *testing.T) {
	for _, capacity := range []int{
		math.MinInt, -largest, -1, 0, 1, 2, 3, 16, 1000, largest - 1, largest, largest + 1, 1 << 20, 1 << 32, 1<<32 + 1, math.MaxInt,
	} {
		if wantNil := capacity < 1 || capacity > largest; wantNil != (registry.New(capacity) == nil) {
			t.Errorf("New(%d) = nil is %v", capacity, !wantNil)
		} else if !wantNil {
			newPair(t, capacity).check(t)
		}
	}
}

// P7.4: the example of the document.
func TestExample(t *testing.T) {
	r := registry.New(16)
	if i, err := r.Add(holder(api.Active, 5)); i != 0 || err != api.OK {
		t.Fatalf("first Add = %d, %d", i, err)
	}
	if i, err := r.Add(holder(api.Pending, 7)); i != 1 || err != api.OK {
		t.Fatalf("second Add = %d, %d", i, err)
	}
	if r.Active() != 5 || r.Total() != 12 {
		t.Errorf("Active %d, Total %d; want 5, 12", r.Active(), r.Total())
	}
	if r.Count(api.Active) != 1 || r.Count(api.Pending) != 1 || r.Count(api.Exiting) != 0 {
		t.Errorf("counts %d, %d, %d; want 1, 1, 0", r.Count(api.Active), r.Count(api.Pending), r.Count(api.Exiting))
	}
}

// P7.1 and P7.2: a registry takes as many validators as its capacity says, and no more.
func TestCapacity(t *testing.T) {
	for _, capacity := range []int{1, 2, 3, 7, 64, 1000, largest} {
		r := registry.New(capacity)
		for i := range capacity {
			if got, err := r.Add(holder(i%9, uint64(i))); got != i || err != api.OK {
				t.Fatalf("capacity %d: Add %d = %d, %d", capacity, i+1, got, err)
			}
		}
		for range 3 {
			if got, err := r.Add(holder(api.Active, 0)); got != -1 || err != api.ErrFull {
				t.Fatalf("capacity %d: Add to a full registry = %d, %d; want -1, %d", capacity, got, err, api.ErrFull)
			}
		}
		if r.Len() != capacity || len(r.All()) != capacity {
			t.Errorf("capacity %d: Len %d, All has %d", capacity, r.Len(), len(r.All()))
		}
		for i := range capacity {
			if v, ok := r.Get(i); !ok || v != holder(i%9, uint64(i)) {
				t.Fatalf("capacity %d: Get(%d) = %+v, %v", capacity, i, v, ok)
			}
		}
	}
}

// P7.2: both sides of the limit of the sum, whatever the statuses are; ErrFull precedes ErrOverflow.
func TestAddOverflow(t *testing.T) {
	for _, status := range statuses {
		p := newPair(t, 3)
		for _, balance := range []uint64{math.MaxUint64 - 2, 3, math.MaxUint64, 1 << 63, 2, 1, math.MaxUint64, 0, 0, 1, math.MaxUint64} {
			p.add(t, holder(status, balance))
			p.check(t)
		}
	}
	r := registry.New(2)
	for _, c := range []struct {
		balance uint64
		index   int
		err     api.Errno
	}{
		{1 << 63, 0, api.OK},
		{1 << 63, -1, api.ErrOverflow},
		{math.MaxUint64, -1, api.ErrOverflow},
		{1<<63 - 1, 1, api.OK},
		{1, -1, api.ErrFull},
		{math.MaxUint64, -1, api.ErrFull},
	} {
		if i, err := r.Add(holder(api.Paid, c.balance)); i != c.index || err != c.err {
			t.Errorf("Add of %d = %d, %d; want %d, %d", c.balance, i, err, c.index, c.err)
		}
	}
}

// P7.3: both sides of the limit of the sum, in which the balance that is replaced does not count; ErrIndex precedes ErrOverflow.
func TestSetOverflow(t *testing.T) {
	for _, c := range []struct {
		index   int
		balance uint64
		want    api.Errno
	}{
		{0, 10, api.OK},
		{0, 12, api.ErrOverflow},
		{0, 11, api.OK},
		{0, math.MaxUint64, api.ErrOverflow},
		{0, 0, api.OK},
		{1, math.MaxUint64 - 10, api.ErrOverflow},
		{1, math.MaxUint64 - 11, api.OK},
		{1, math.MaxUint64, api.ErrOverflow},
		{1, 1 << 63, api.OK},
		{2, 3, api.ErrOverflow},
		{2, 2, api.OK},
		{2, 1 << 63, api.ErrOverflow},
		{3, math.MaxUint64, api.ErrIndex},
		{3, 0, api.ErrIndex},
		{-1, math.MaxUint64, api.ErrIndex},
		{-1, 0, api.ErrIndex},
		{math.MinInt, 1, api.ErrIndex},
		{math.MaxInt, 1, api.ErrIndex},
	} {
		p := newPair(t, 4)
		p.add(t, holder(api.Active, 10))
		p.add(t, holder(api.Pending, math.MaxUint64-12))
		p.add(t, holder(api.Exiting, 1))
		for _, v := range []api.Validator{holder(api.Active, c.balance), holder(api.Paid, c.balance)} {
			changed := p.clone(t)
			if err := changed.registry.Set(c.index, v); err != c.want {
				t.Errorf("Set(%d, %+v) = %d; want %d", c.index, v, err, c.want)
			}
			changed.model.set(c.index, v)
			changed.check(t)
		}
	}
}

// P7.3: one validator may have the whole sum, and be replaced by itself or by another one with it.
func TestWholeSum(t *testing.T) {
	p := newPair(t, 2)
	p.add(t, holder(api.Active, math.MaxUint64))
	p.check(t)
	for _, v := range []api.Validator{
		holder(api.Active, math.MaxUint64),
		holder(api.Exiting, math.MaxUint64),
		holder(api.Unbonding, math.MaxUint64),
		holder(api.Active, math.MaxUint64-1),
	} {
		p.set(t, 0, v)
		p.check(t)
		p.add(t, holder(api.Active, 2))
		p.check(t)
	}
	p.add(t, holder(api.Active, 1))
	p.set(t, 1, holder(api.Active, 2))
	p.check(t)
}

// P7.3: an index is valid from the moment of its Add on.
func TestIndices(t *testing.T) {
	p := newPair(t, 5)
	for n := range 6 {
		for _, i := range []int{math.MinInt, -2, -1, 0, 1, 2, 3, 4, 5, 6, largest, 1 << 32, math.MaxInt} {
			p.set(t, i, holder(api.Active, uint64(n*10+i&7)))
			p.check(t)
		}
		p.add(t, holder(api.Pending, uint64(n)))
		p.check(t)
	}
}

// P7.2 and P7.3: all fields are stored, whatever they are.
func TestFields(t *testing.T) {
	odd := []api.Validator{
		{},
		{Balance: 1, Status: math.MinInt, Slashed: true, Request: math.MinInt, Exit: math.MaxInt, Withdraw: -5, Deadline: math.MinInt},
		{Balance: 2, Status: math.MaxInt, Request: math.MaxInt, Exit: math.MinInt, Withdraw: math.MaxInt, Deadline: 9},
		{Balance: 3, Status: api.Paid, Slashed: true, Request: 1, Exit: 2, Withdraw: 3, Deadline: 4},
		{Balance: 3, Status: api.Paid, Slashed: false, Request: 1, Exit: 2, Withdraw: 3, Deadline: 4},
		{Balance: 3, Status: api.Paid, Slashed: false, Request: 5, Exit: 2, Withdraw: 3, Deadline: 4},
		{Balance: 3, Status: api.Paid, Slashed: false, Request: 5, Exit: 6, Withdraw: 3, Deadline: 4},
		{Balance: 3, Status: api.Paid, Slashed: false, Request: 5, Exit: 6, Withdraw: 7, Deadline: 4},
		{Balance: 3, Status: api.Paid, Slashed: false, Request: 5, Exit: 6, Withdraw: 7, Deadline: 8},
		{Balance: 3, Status: api.Merged, Slashed: false, Request: 5, Exit: 6, Withdraw: 7, Deadline: 8},
	}
	added := newPair(t, len(odd))
	replaced := newPair(t, 1)
	replaced.add(t, holder(api.Active, 1))
	for _, v := range odd {
		added.add(t, v)
		added.check(t)
		replaced.set(t, 0, v)
		replaced.check(t)
	}
}

// P7.4: every change of a status moves one validator and its balance.
func TestStatusChanges(t *testing.T) {
	for _, from := range statuses {
		for _, to := range statuses {
			p := newPair(t, 3)
			p.add(t, holder(from, 5))
			p.add(t, holder(api.Active, 100))
			p.add(t, holder(to, 70))
			p.set(t, 0, holder(to, 6))
			p.check(t)
			p.set(t, 2, holder(from, 0))
			p.check(t)
			p.set(t, 0, holder(from, 5))
			p.check(t)
		}
	}
}

// P7.4: a counter goes up and down with many validators and many statuses.
func TestManyStatuses(t *testing.T) {
	const n = 500
	r := registry.New(n)
	for i := range n {
		r.Add(holder(i/2, 1))
	}
	for round := range 20 {
		for i := range n {
			if r.Count(round*n+i/2) != 2-i%2 {
				t.Fatalf("round %d, validator %d: Count = %d; want %d", round, i, r.Count(round*n+i/2), 2-i%2)
			}
			r.Set(i, holder((round+1)*n+i/2, 1))
		}
	}
	for status := range 20 * n {
		if r.Count(status) != 0 {
			t.Fatalf("Count(%d) = %d; no validator has the status any more", status, r.Count(status))
		}
	}
}

// heap returns how many bytes are in use after a collection.
func heap() uint64 {
	var m runtime.MemStats
	runtime.GC()
	runtime.ReadMemStats(&m)
	return m.HeapAlloc
}

// LANGUAGE.md, rule 8: a registry keeps nothing of the statuses that no validator has any more.
func TestPastStatusesTakeNoMemory(t *testing.T) {
	r := registry.New(1)
	r.Add(holder(0, 1))
	before := heap()
	for status := range 1 << 19 {
		r.Set(0, holder(status, 1))
	}
	if after := heap(); after > before+1<<20 {
		t.Errorf("the registry has grown by %d bytes", after-before)
	}
	if r.Count(1<<19-1) != 1 || r.Count(0) != 0 {
		t.Errorf("counts %d, %d; want 1, 0", r.Count(1<<19-1), r.Count(0))
	}
}

// Rule 4: the slice that All returned and the registry do not share memory.
func TestAllIsACopy(t *testing.T) {
	p := newPair(t, 4)
	for i := range 3 {
		p.add(t, holder(api.Active, uint64(i)))
	}
	first, second := p.registry.All(), p.registry.All()
	for i := range first {
		first[i].Balance = 99
	}
	_ = append(first[:1], holder(api.Paid, 1))
	_ = append(first, holder(api.Paid, 1))
	p.check(t)
	if !slices.Equal(second, p.model.validators) {
		t.Errorf("a change of one result changed another one to %+v", second)
	}
	p.add(t, holder(api.Pending, 8))
	p.set(t, 0, holder(api.Pending, 8))
	p.check(t)
	if len(second) != 3 || second[0] != holder(api.Active, 0) {
		t.Errorf("a change of the registry changed a result of All to %+v", second)
	}
	second = append(second, holder(api.Paid, 2))
	p.check(t)
}

// Rule 3: a call that returns an error changes nothing, in a registry that has all statuses.
func TestErrorsChangeNothing(t *testing.T) {
	p := newPair(t, len(statuses)+1)
	for i, status := range statuses {
		p.add(t, holder(status, uint64(i)<<55))
	}
	for range 3 {
		for i, status := range statuses {
			v := holder(status, math.MaxUint64-1<<55)
			p.add(t, v)
			p.check(t)
			p.set(t, i, v)
			p.check(t)
			p.set(t, -1-i, v)
			p.set(t, len(statuses)+i, v)
			p.check(t)
		}
	}
	if len(p.model.validators) != len(statuses) {
		t.Fatal("the calls of this test are no errors")
	}
}

// expectSequences makes all sequences of calls with these validators that have the length, and that start with those of the pair.
func expectSequences(t *testing.T, p *pair, l []api.Validator, length int) {
	t.Helper()
	p.check(t)
	if length == 0 {
		return
	}
	for _, v := range l {
		next := p.clone(t)
		next.add(t, v)
		expectSequences(t, next, l, length-1)
		for i := -1; i <= len(p.model.validators); i++ {
			next := p.clone(t)
			next.set(t, i, v)
			expectSequences(t, next, l, length-1)
		}
	}
}

// P7.2 to P7.4: all short sequences of calls, with balances whose sums fit or wrap around.
func TestShortSequences(t *testing.T) {
	for _, balances := range [][2]uint64{{0, 1}, {3, 3}, {1 << 63, 1<<63 - 1}, {1, math.MaxUint64}} {
		l := []api.Validator{holder(api.Active, balances[0]), holder(api.Pending, balances[1]), holder(api.Exiting, balances[1])}
		for _, capacity := range []int{1, 2, 4} {
			expectSequences(t, newPair(t, capacity), l, 3)
		}
	}
}

// P7.2 to P7.4: long sequences of calls on one registry.
func TestLongSequences(t *testing.T) {
	random := rand.New(rand.NewSource(7))
	for _, capacity := range []int{1, 5, 40} {
		for _, bits := range []int{4, 58, 62, 64} {
			p := newPair(t, capacity)
			for range 1500 {
				v := holder(statuses[random.Intn(len(statuses))], random.Uint64()>>(64-bits))
				v.Slashed = random.Intn(2) == 0
				v.Exit = random.Intn(3)
				if random.Intn(10) == 0 {
					p.add(t, v)
				} else {
					p.set(t, random.Intn(capacity+2)-1, v)
				}
				p.check(t)
			}
		}
	}
}

func TestNilRegistry(t *testing.T) {
	var r *registry.Registry
	for _, v := range []api.Validator{{}, holder(api.Active, 1), holder(api.Paid, math.MaxUint64)} {
		if i, err := r.Add(v); i != -1 || err != api.ErrNil {
			t.Errorf("nil registry: Add = %d, %d; want -1, %d", i, err, api.ErrNil)
		}
		for _, i := range []int{math.MinInt, -1, 0, 1, math.MaxInt} {
			if err := r.Set(i, v); err != api.ErrNil {
				t.Errorf("nil registry: Set(%d) = %d; want %d", i, err, api.ErrNil)
			}
			if got, ok := r.Get(i); got != (api.Validator{}) || ok {
				t.Errorf("nil registry: Get(%d) = %+v, %v", i, got, ok)
			}
		}
	}
	for _, status := range statuses {
		if r.Count(status) != 0 {
			t.Errorf("nil registry: Count(%d) = %d", status, r.Count(status))
		}
	}
	if r.Len() != 0 || r.Active() != 0 || r.Total() != 0 || len(r.All()) != 0 {
		t.Errorf("nil registry: Len %d, Active %d, Total %d, All %v", r.Len(), r.Active(), r.Total(), r.All())
	}
}

// P2: registries that were created separately are independent of each other.
func TestIndependent(t *testing.T) {
	a, b := newPair(t, 3), newPair(t, 3)
	a.add(t, holder(api.Active, 5))
	b.check(t)
	b.add(t, holder(api.Pending, 7))
	b.add(t, holder(api.Active, 1))
	a.check(t)
	a.set(t, 0, holder(api.Paid, 0))
	a.check(t)
	b.check(t)
}

// Rule 6: the functions of the package may be called concurrently.
func TestConcurrent(t *testing.T) {
	var workers sync.WaitGroup
	for n := range 8 {
		workers.Go(func() {
			r := registry.New(100)
			for i := range 100 {
				r.Add(holder(api.Active, uint64(n)))
				r.Set(i, holder(api.Exiting, uint64(n+1)))
			}
			if r.Len() != 100 || r.Active() != uint64(100*(n+1)) || r.Count(api.Exiting) != 100 {
				t.Errorf("worker %d: Len %d, Active %d, Count %d", n, r.Len(), r.Active(), r.Count(api.Exiting))
			}
		})
	}
	workers.Wait()
}
