package bucket_test

import (
	"math"
	"math/rand"
	"runtime"
	"slices"
	"sync"
	"testing"

	"egress/api"
	"egress/bucket"
)

// longest is the greatest length of a ring.
const longest = 4096

// model is the specification of a ring: the entries in the order in which they were stored.
type model struct {
	length  int
	entries []bucket.Entry
}

func (m *model) put(epoch, item int) bool {
	if epoch < 0 || epoch > api.MaxEpoch {
		return false
	}
	m.entries = append(m.entries, bucket.Entry{Epoch: epoch, Item: item})
	return true
}

// items returns the items for an epoch in the order in which they were stored.
func (m *model) items(epoch int) []int {
	var items []int
	for _, e := range m.entries {
		if e.Epoch == epoch {
			items = append(items, e.Item)
		}
	}
	return items
}

func (m *model) due(epoch int) []int {
	items := m.items(epoch)
	m.entries = slices.DeleteFunc(m.entries, func(e bucket.Entry) bool { return e.Epoch == epoch })
	return items
}

// epochs returns the epochs that have an item, each of them once, in ascending order.
func (m *model) epochs() []int {
	var epochs []int
	for _, e := range m.entries {
		epochs = append(epochs, e.Epoch)
	}
	slices.Sort(epochs)
	return slices.Compact(epochs)
}

func (m *model) next() (int, bool) {
	epochs := m.epochs()
	if len(epochs) == 0 {
		return 0, false
	}
	return epochs[0], true
}

func (m *model) load(number int) int {
	n := 0
	for _, e := range m.entries {
		if e.Epoch%m.length == number {
			n++
		}
	}
	return n
}

func (m *model) all() []bucket.Entry {
	var all []bucket.Entry
	for _, epoch := range m.epochs() {
		for _, item := range m.items(epoch) {
			all = append(all, bucket.Entry{Epoch: epoch, Item: item})
		}
	}
	return all
}

// pair is a ring with its specification.
type pair struct {
	ring  *bucket.Ring
	model model
}

func newPair(t *testing.T, length int) *pair {
	t.Helper()
	p := &pair{bucket.New(length), model{length: length}}
	if p.ring == nil {
		t.Fatalf("New(%d) = nil", length)
	}
	return p
}

func (p *pair) put(t *testing.T, epoch, item int) {
	t.Helper()
	want := p.model.put(epoch, item)
	if got := p.ring.Put(epoch, item); got != want {
		t.Fatalf("length %d: Put(%d, %d) = %v; want %v", p.model.length, epoch, item, got, want)
	}
}

func (p *pair) due(t *testing.T, epoch int) {
	t.Helper()
	before := slices.Clone(p.model.entries)
	want := p.model.due(epoch)
	if got := p.ring.Due(epoch); !slices.Equal(got, want) {
		t.Fatalf("length %d, stored %v: Due(%d) = %v; want %v", p.model.length, before, epoch, got, want)
	}
}

// check compares all that can be read from the ring.
func (p *pair) check(t *testing.T) {
	t.Helper()
	r, m := p.ring, &p.model
	if r.Len() != len(m.entries) {
		t.Fatalf("length %d, stored %v: Len = %d; want %d", m.length, m.entries, r.Len(), len(m.entries))
	}
	next, ok := r.Next()
	if want, wantOK := m.next(); next != want || ok != wantOK {
		t.Fatalf("length %d, stored %v: Next = %d, %v; want %d, %v", m.length, m.entries, next, ok, want, wantOK)
	}
	for number := range min(m.length, 20) {
		p.checkLoad(t, number)
	}
	if got, want := r.All(), m.all(); !slices.Equal(got, want) {
		t.Fatalf("length %d, stored %v: All = %v; want %v", m.length, m.entries, got, want)
	}
}

func (p *pair) checkLoad(t *testing.T, number int) {
	t.Helper()
	if got, want := p.ring.Load(number), p.model.load(number); got != want {
		t.Fatalf("length %d, stored %v: Load(%d) = %d; want %d", p.model.length, p.model.entries, number, got, want)
	}
}

// noEpochs are numbers for which no item can be stored.
var noEpochs = []int{
	math.MinInt, math.MinInt + 1, -api.MaxEpoch, -longest, -8, -4, -2, api.NoEpoch,
	api.MaxEpoch + 1, api.MaxEpoch + 2, 2 * api.MaxEpoch, math.MaxInt - 1, math.MaxInt,
}

// P8.1: both sides of the limits of the length.
func TestNew(t *testing.T) {
	for _, length := range []int{
		math.MinInt, -longest, -1, 0, 1, 2, 3, 16, 1000, longest - 1, longest, longest + 1, 1 << 20, 1 << 32, 1<<32 + 1, math.MaxInt,
	} {
		if wantNil := length < 1 || length > longest; wantNil != (bucket.New(length) == nil) {
			t.Errorf("New(%d) = nil is %v", length, !wantNil)
		} else if !wantNil {
			p := newPair(t, length)
			p.check(t)
			p.due(t, 0)
			p.check(t)
		}
	}
}

// P8.2 and P8.3: the example of the document.
func TestExample(t *testing.T) {
	r := bucket.New(4)
	if !r.Put(2, 7) || !r.Put(6, 8) || !r.Put(2, 9) {
		t.Fatal("Put = false")
	}
	if r.Load(2) != 3 || r.Load(6) != 0 {
		t.Errorf("Load(2) = %d and Load(6) = %d; want 3 and 0", r.Load(2), r.Load(6))
	}
	if l := r.Due(2); !slices.Equal(l, []int{7, 9}) {
		t.Errorf("Due(2) = %v; want 7 and 9", l)
	}
	if l := r.All(); !slices.Equal(l, []bucket.Entry{{Epoch: 6, Item: 8}}) {
		t.Errorf("All = %v; want the item 8 for the epoch 6", l)
	}
}

// P8.2: both sides of the limits of an epoch.
func TestEpochLimits(t *testing.T) {
	for _, length := range []int{1, 2, 3, 4, 1000, longest} {
		p := newPair(t, length)
		for _, epoch := range []int{0, api.MaxEpoch, 1, api.MaxEpoch - 1, 0, api.MaxEpoch, longest} {
			p.put(t, epoch, epoch-5)
			p.checkLoad(t, epoch%length)
			p.check(t)
			for _, none := range noEpochs {
				p.put(t, none, epoch)
				p.due(t, none)
				p.check(t)
			}
		}
		for _, epoch := range []int{api.MaxEpoch, 0, api.MaxEpoch - 1, longest, 1} {
			p.due(t, epoch)
			p.check(t)
		}
	}
}

// P8.2: a ring without items has none for any epoch.
func TestDueOfEmptyRing(t *testing.T) {
	for _, length := range []int{1, 3, longest} {
		p := newPair(t, length)
		for _, epoch := range append([]int{0, 1, 2, 3, longest - 1, longest, api.MaxEpoch}, noEpochs...) {
			p.due(t, epoch)
			p.check(t)
		}
	}
}

// P8.2: every int is an item, and may be stored several times, for one epoch or for several ones.
func TestItems(t *testing.T) {
	p := newPair(t, 3)
	for _, item := range []int{0, 0, -1, math.MinInt, math.MaxInt, 1, 0, math.MinInt, api.NoEpoch, api.MaxEpoch, 7, 7, 6} {
		for _, epoch := range []int{5, 2, 5, 3} {
			p.put(t, epoch, item)
			p.check(t)
		}
	}
	for _, epoch := range []int{3, 5, 2} {
		p.due(t, epoch)
		p.check(t)
	}
}

// orders returns all orders of the numbers from 0 to n - 1.
func orders(n int) [][]int {
	if n == 0 {
		return [][]int{nil}
	}
	var all [][]int
	for _, order := range orders(n - 1) {
		for place := range n {
			all = append(all, slices.Insert(slices.Clone(order), place, n-1))
		}
	}
	return all
}

// P8.2 to P8.4: epochs that share a bucket, in each order of storing and of removing.
func TestEveryOrder(t *testing.T) {
	const n = 4
	for _, length := range []int{1, 3, 100} {
		for _, stored := range orders(n) {
			for _, removed := range orders(n) {
				p := newPair(t, length)
				for i := range 2 * n {
					p.put(t, 2+length*stored[i%n], i)
				}
				p.check(t)
				for _, i := range removed {
					p.due(t, 2+length*i)
					p.check(t)
					p.due(t, 2+length*i)
				}
				p.check(t)
			}
		}
	}
}

// P8.2: Due does not take the epochs beside its own one, in whose bucket they may be.
func TestDueIsExact(t *testing.T) {
	for _, length := range []int{1, 2, 5, longest} {
		for _, distance := range []int{1, length - 1, length, length + 1, 2 * length} {
			p := newPair(t, length)
			middle := 3 * longest
			p.put(t, middle+distance, 1)
			p.put(t, middle-distance, 2)
			p.due(t, middle)
			p.check(t)
			p.put(t, middle, 3)
			p.put(t, middle, 4)
			p.check(t)
			p.due(t, middle)
			p.check(t)
			p.put(t, middle, 5)
			p.check(t)
		}
	}
}

// P8.3: numbers at both sides of those that the buckets have.
func TestLoad(t *testing.T) {
	for _, length := range []int{1, 2, 7, longest} {
		p := newPair(t, length)
		for i := range 40 {
			p.put(t, i*i*31, i)
			p.put(t, length-1, i)
		}
		for number := range length {
			p.checkLoad(t, number)
		}
		for _, number := range []int{math.MinInt, -length - 1, -length, -1, length, length + 1, 2 * length, longest, longest + 1, 1 << 32, math.MaxInt} {
			if got := p.ring.Load(number); got != 0 {
				t.Errorf("length %d: Load(%d) = %d; there is no such bucket", length, number, got)
			}
		}
	}
}

// P8.3: the smallest epoch is that of any bucket, and 0 is an epoch like others.
func TestNext(t *testing.T) {
	for _, length := range []int{1, 2, 3, 4, 16, longest} {
		p := newPair(t, length)
		for _, epoch := range []int{api.MaxEpoch, 5000, 17, 16, 15, 40, 3, 2, 1, 0, 4} {
			p.put(t, epoch, 9)
			p.check(t)
		}
		for range 12 {
			epoch, _ := p.model.next()
			p.due(t, epoch)
			p.check(t)
		}
	}
}

// P8.3 and P8.4: reading a ring does not change it.
func TestReadTwice(t *testing.T) {
	p := newPair(t, 2)
	for i := range 8 {
		p.put(t, i*5%7, i)
	}
	for range 3 {
		p.check(t)
	}
}

// P8.4: many items for few epochs, whose order of storing a sort could change.
func TestManyItems(t *testing.T) {
	for _, length := range []int{1, 2, 4, 7} {
		p := newPair(t, length)
		for i := range 1000 {
			p.put(t, i*7919%5, i*31%17)
		}
		p.check(t)
		for epoch := range 5 {
			p.due(t, epoch)
			p.check(t)
		}
	}
}

// P8.2 to P8.4: all short sequences of calls.
func TestEverySequence(t *testing.T) {
	const length = 5
	epochs := []int{0, 1, 2, 4}
	calls := 2 * len(epochs)
	sequences := 1
	for range length {
		sequences *= calls
	}
	for _, buckets := range []int{1, 2, 3} {
		for s := range sequences {
			p := newPair(t, buckets)
			for i := range length {
				if epoch := epochs[s%len(epochs)]; s%calls < len(epochs) {
					p.put(t, epoch, i)
				} else {
					p.due(t, epoch)
				}
				s /= calls
				p.check(t)
			}
		}
	}
}

// P8.2 to P8.4: long sequences of calls on one ring, whose epochs are anywhere or around one that passes.
func TestLongSequences(t *testing.T) {
	random := rand.New(rand.NewSource(8))
	for _, length := range []int{1, 2, 5, 40} {
		for _, width := range []int{3, 12, 100, api.MaxEpoch + 1} {
			p := newPair(t, length)
			for now := range 1200 {
				from := min(now/4, api.MaxEpoch+1-width)
				epoch := from + random.Intn(width)
				if random.Intn(3) > 0 {
					p.put(t, epoch, random.Intn(9))
				} else if next, ok := p.model.next(); ok && random.Intn(2) > 0 {
					p.due(t, next)
				} else {
					p.due(t, epoch)
				}
				p.check(t)
			}
		}
	}
}

// P8.2: buckets with many epochs, each of which has one item.
func TestManyEpochs(t *testing.T) {
	const n = 3 * longest
	for _, length := range []int{1, 3, longest} {
		r := bucket.New(length)
		for epoch := range n {
			r.Put(epoch, -epoch)
		}
		if r.Len() != n || len(r.All()) != n {
			t.Fatalf("length %d: Len %d, All has %d; want %d", length, r.Len(), len(r.All()), n)
		}
		for epoch := range n {
			if l := r.Due(epoch); !slices.Equal(l, []int{-epoch}) {
				t.Fatalf("length %d: Due(%d) = %v", length, epoch, l)
			}
		}
		if r.Len() != 0 || r.Load(0) != 0 {
			t.Errorf("length %d: Len %d, Load(0) %d; want 0", length, r.Len(), r.Load(0))
		}
	}
}

// heap returns how many bytes are in use after a collection.
func heap() uint64 {
	var m runtime.MemStats
	runtime.GC()
	runtime.ReadMemStats(&m)
	return m.HeapAlloc
}

// LANGUAGE.md, rule 8: a ring keeps nothing of the epochs that are past.
func TestPastEpochsTakeNoMemory(t *testing.T) {
	r := bucket.New(4)
	before := heap()
	for epoch := range 1 << 19 {
		r.Put(epoch+5, epoch)
		r.Put(epoch+9, epoch)
		r.Due(epoch)
	}
	if after := heap(); after > before+1<<20 {
		t.Errorf("the ring has grown by %d bytes", after-before)
	}
	if r.Len() != 14 {
		t.Errorf("Len = %d; want 14", r.Len())
	}
}

// Rule 4: no result shares memory with the ring or with another result.
func TestResultsAreCopies(t *testing.T) {
	p := newPair(t, 2)
	for i := range 9 {
		p.put(t, i*5%3, i)
	}
	first, second := p.ring.All(), p.ring.All()
	for i := range first[:cap(first)] {
		first[:cap(first)][i] = bucket.Entry{Epoch: 77, Item: 88}
	}
	p.check(t)
	if !slices.Equal(second, p.model.all()) {
		t.Errorf("a change of one result changed another one to %v", second)
	}
	want := p.model.due(1)
	due := p.ring.Due(1)
	for i := range 9 {
		p.put(t, 1, 100+i)
	}
	if !slices.Equal(due, want) {
		t.Errorf("a change of the ring changed a result of Due to %v; want %v", due, want)
	}
	for i := range due[:cap(due)] {
		due[:cap(due)][i] = 99
	}
	p.check(t)
	if l := second[3:6]; !slices.Equal(l, []bucket.Entry{{Epoch: 1, Item: 2}, {Epoch: 1, Item: 5}, {Epoch: 1, Item: 8}}) {
		t.Errorf("a change of the ring changed a result of All to %v", second)
	}
}

// checkNil checks the results of a nil ring.
func checkNil(t *testing.T, r *bucket.Ring) {
	t.Helper()
	for _, n := range append([]int{0, 1, 5, longest, api.MaxEpoch}, noEpochs...) {
		if r.Put(n, 0) || r.Put(n, 1) || len(r.Due(n)) != 0 || r.Load(n) != 0 {
			t.Errorf("nil ring: Put(%d, 1) = %v, Due %v, Load %d", n, r.Put(n, 1), r.Due(n), r.Load(n))
		}
	}
	if r.Len() != 0 || len(r.All()) != 0 {
		t.Errorf("nil ring: Len %d, All %v", r.Len(), r.All())
	}
	if epoch, ok := r.Next(); epoch != 0 || ok {
		t.Errorf("nil ring: Next = %d, %v", epoch, ok)
	}
}

func TestNilRing(t *testing.T) {
	checkNil(t, nil)
	checkNil(t, bucket.New(0))
	checkNil(t, bucket.New(longest+1))
}

// P2: rings that were created separately are independent of each other.
func TestIndependent(t *testing.T) {
	a, b := newPair(t, 3), newPair(t, 3)
	a.put(t, 5, 1)
	b.check(t)
	b.put(t, 5, 2)
	b.put(t, 2, 3)
	a.check(t)
	a.due(t, 5)
	a.check(t)
	b.check(t)
}

// Rule 6: the functions of the package may be called concurrently.
func TestConcurrent(t *testing.T) {
	var workers sync.WaitGroup
	for n := range 8 {
		workers.Go(func() {
			r := bucket.New(5)
			for i := range 100 {
				r.Put(i%10, n)
			}
			if l := r.Due(3); r.Len() != 90 || len(l) != 10 || l[0] != n || r.Load(3) != 10 {
				t.Errorf("worker %d: Len %d, Due %v, Load %d", n, r.Len(), l, r.Load(3))
			}
		})
	}
	workers.Wait()
}
