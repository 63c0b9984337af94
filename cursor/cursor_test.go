package cursor_test

import (
	"math"
	"math/big"
	"math/rand"
	"slices"
	"sync"
	"testing"

	"egress/cursor"
)

// model is the specification of a cursor: the index that is visited next.
type model struct{ at int }

// order returns all indices of n elements in the order in which they would be visited.
func (m *model) order(n int) []int {
	if n == 0 {
		return nil
	}
	var order []int
	for i := range n {
		order = append(order, i)
	}
	start := m.at % n
	return append(slices.Clone(order[start:]), order[:start]...)
}

func (m *model) sweep(ready []bool, visits, pays int) ([]int, int) {
	order := m.order(len(ready))
	var paid []int
	for made, i := range order {
		if made >= visits || len(paid) >= pays {
			return paid, made
		}
		if ready[i] {
			paid = append(paid, i)
		}
		m.at = order[(made+1)%len(order)]
	}
	return paid, len(order)
}

// distance counts the visits before the one of i.
func (m *model) distance(n, i int) int {
	return slices.Index(m.order(max(n, 0)), i)
}

// pair is a cursor with its specification.
type pair struct {
	cursor *cursor.Cursor
	model  model
}

// newPair returns a cursor with the index at.
func newPair(t *testing.T, at int) *pair {
	t.Helper()
	p := &pair{cursor: cursor.New()}
	if p.cursor == nil {
		t.Fatal("New = nil")
	}
	if p.cursor.At() != 0 {
		t.Fatalf("the index of a new cursor is %d", p.cursor.At())
	}
	if at > 0 {
		p.sweep(t, make([]bool, at+1), at, 1)
	}
	if p.cursor.At() != at {
		t.Fatalf("the index after %d visits is %d", at, p.cursor.At())
	}
	return p
}

// sweep performs a sweep, and compares its results and the index after it.
func (p *pair) sweep(t *testing.T, ready []bool, visits, pays int) {
	t.Helper()
	before := p.model.at
	wantPaid, wantMade := p.model.sweep(ready, visits, pays)
	paid, made := p.cursor.Sweep(ready, visits, pays)
	if !slices.Equal(paid, wantPaid) || made != wantMade {
		t.Fatalf("from %d: Sweep(%v, %d, %d) = %v, %d; want %v, %d", before, ready, visits, pays, paid, made, wantPaid, wantMade)
	}
	if p.cursor.At() != p.model.at {
		t.Fatalf("from %d: after Sweep(%v, %d, %d), At = %d; want %d", before, ready, visits, pays, p.cursor.At(), p.model.at)
	}
}

// distances compares the distances to all indices of n elements, and to some that are none.
func (p *pair) distances(t *testing.T, n int) {
	t.Helper()
	for i := -2; i < n+3; i++ {
		if got, want := p.cursor.Distance(n, i), p.model.distance(n, i); got != want {
			t.Fatalf("from %d: Distance(%d, %d) = %d; want %d", p.model.at, n, i, got, want)
		}
	}
}

// masks returns all lists of n bools.
func masks(n int) [][]bool {
	if n == 0 {
		return [][]bool{nil}
	}
	var all [][]bool
	for _, l := range masks(n - 1) {
		all = append(all, append(slices.Clone(l), false), append(slices.Clone(l), true))
	}
	return all
}

// allReady returns n bools that are true.
func allReady(n int) []bool {
	return slices.Repeat([]bool{true}, n)
}

// budgets returns numbers of visits or payments: all that make a difference for n elements, and the limits of an int.
func budgets(n int) []int {
	l := []int{math.MinInt, math.MinInt + 1, math.MaxInt - 1, math.MaxInt}
	for budget := -2; budget <= n+2; budget++ {
		l = append(l, budget)
	}
	return l
}

// P9.1 and P9.2: the example of the document.
func TestExample(t *testing.T) {
	c := cursor.New()
	ready := []bool{true, false, false, true, false}
	if paid, made := c.Sweep(ready, 4, 1); !slices.Equal(paid, []int{0}) || made != 1 || c.At() != 1 {
		t.Errorf("first sweep: %v, %d, At %d; want 0, 1, At 1", paid, made, c.At())
	}
	if d := c.Distance(5, 0); d != 4 {
		t.Errorf("Distance(5, 0) = %d; want 4", d)
	}
	if paid, made := c.Sweep(ready, 4, 1); !slices.Equal(paid, []int{3}) || made != 3 || c.At() != 4 {
		t.Errorf("second sweep: %v, %d, At %d; want 3, 3, At 4", paid, made, c.At())
	}
	if paid, made := c.Sweep(ready, 4, 2); !slices.Equal(paid, []int{0}) || made != 4 || c.At() != 3 {
		t.Errorf("third sweep: %v, %d, At %d; want 0, 4, At 3", paid, made, c.At())
	}
}

// P9.1 and P9.2: all sweeps over a few elements, from each index, also from one that they do not have.
func TestEverySweep(t *testing.T) {
	const most = 5
	for n := range most + 1 {
		for _, ready := range masks(n) {
			for at := range 2*most + 2 {
				for _, visits := range budgets(n) {
					for _, pays := range budgets(n) {
						newPair(t, at).sweep(t, ready, visits, pays)
					}
				}
			}
		}
	}
}

// P9.1: the payments are in the order of the visits, also where index 0 follows the last one.
func TestPaidInOrderOfVisits(t *testing.T) {
	c := newPair(t, 3).cursor
	paid, made := c.Sweep(allReady(5), 9, 9)
	if !slices.Equal(paid, []int{3, 4, 0, 1, 2}) || made != 5 || c.At() != 3 {
		t.Errorf("Sweep = %v, %d, At %d; want 3, 4, 0, 1, 2 with 5 visits, and At 3", paid, made, c.At())
	}
}

// P9.1: no element is visited after the last payment, and those that are not paid before it count as visits only.
func TestLastPaymentEnds(t *testing.T) {
	c := cursor.New()
	ready := []bool{false, true, false, true, false, false}
	paid, made := c.Sweep(ready, 6, 2)
	if !slices.Equal(paid, []int{1, 3}) || made != 4 || c.At() != 4 {
		t.Errorf("Sweep = %v, %d, At %d; want 1 and 3 with 4 visits, and At 4", paid, made, c.At())
	}
	paid, made = c.Sweep(ready, 6, 3)
	if !slices.Equal(paid, []int{1, 3}) || made != 6 || c.At() != 4 {
		t.Errorf("Sweep = %v, %d, At %d; want 1 and 3 with 6 visits, and At 4", paid, made, c.At())
	}
}

// P9.1: without a visit the cursor stays as it is, even if there are fewer elements than its index.
func TestNoVisit(t *testing.T) {
	for _, at := range []int{0, 1, 2, 7} {
		for _, n := range []int{0, 1, 2, 3, 8} {
			for _, none := range []int{0, -1, -2, math.MinInt} {
				c := newPair(t, at).cursor
				for _, b := range [][2]int{{none, 5}, {5, none}, {none, none}, {none, math.MaxInt}, {math.MaxInt, none}} {
					paid, made := c.Sweep(allReady(n), b[0], b[1])
					if len(paid) != 0 || made != 0 || c.At() != at {
						t.Errorf("from %d: Sweep(%d ready, %d, %d) = %v, %d, At %d", at, n, b[0], b[1], paid, made, c.At())
					}
				}
			}
		}
		c := newPair(t, at).cursor
		for _, ready := range [][]bool{nil, {}} {
			if paid, made := c.Sweep(ready, 3, 3); len(paid) != 0 || made != 0 || c.At() != at {
				t.Errorf("from %d: Sweep of no element = %v, %d, At %d", at, paid, made, c.At())
			}
		}
	}
}

// P9.2: the index is less than the number of elements of the last sweep that made a visit.
func TestIndexIsLess(t *testing.T) {
	for at := range 12 {
		for n := 1; n < 12; n++ {
			for visits := 1; visits < 14; visits++ {
				c := newPair(t, at).cursor
				c.Sweep(make([]bool, n), visits, 1)
				if want := (at%n + min(visits, n)) % n; c.At() != want {
					t.Errorf("from %d: after %d visits of %d elements, At = %d; want %d", at, visits, n, c.At(), want)
				}
			}
		}
	}
}

// P9.1 to P9.3: sequences of sweeps with one cursor, over more and fewer elements.
func TestEverySequence(t *testing.T) {
	const length = 3
	type call struct{ n, visits, pays int }
	var calls []call
	for _, n := range []int{0, 1, 3, 4} {
		for _, visits := range []int{0, 1, 2, 5} {
			calls = append(calls, call{n, visits, 1}, call{n, visits, 9})
		}
	}
	sequences := 1
	for range length {
		sequences *= len(calls)
	}
	for s := range sequences {
		p := newPair(t, 0)
		for step := range length {
			x := calls[s%len(calls)]
			s /= len(calls)
			ready := make([]bool, x.n)
			for i := range ready {
				ready[i] = (i+step)%2 == 0
			}
			p.sweep(t, ready, x.visits, x.pays)
		}
		p.distances(t, 3)
	}
}

// P9.1 to P9.3: long sequences of sweeps over a number of elements that changes.
func TestLongSequences(t *testing.T) {
	random := rand.New(rand.NewSource(9))
	for _, most := range []int{1, 2, 5, 40, 300} {
		p := newPair(t, 0)
		for range 1500 {
			ready := make([]bool, random.Intn(most+1))
			share := random.Intn(4)
			for i := range ready {
				ready[i] = random.Intn(3) < share
			}
			p.sweep(t, ready, random.Intn(most+3)-1, random.Intn(most+3)-1)
			if most <= 40 {
				p.distances(t, random.Intn(most+2))
			}
		}
	}
}

// P9.1 to P9.3: sweeps over a long list.
func TestLongList(t *testing.T) {
	const n = 1 << 20
	ready := make([]bool, n)
	ready[n-2], ready[7] = true, true
	p := newPair(t, 0)
	for _, visits := range []int{n - 5, 1, 10, n, math.MaxInt} {
		p.sweep(t, ready, visits, 1)
		for _, i := range []int{0, 7, n - 2, n - 1} {
			if got, want := p.cursor.Distance(n, i), p.model.distance(n, i); got != want {
				t.Errorf("from %d: Distance(%d, %d) = %d; want %d", p.model.at, n, i, got, want)
			}
		}
	}
}

// P9.3: the distances from each index, also from one that the elements do not have.
func TestEveryDistance(t *testing.T) {
	for at := range 30 {
		p := newPair(t, at)
		for n := range 13 {
			p.distances(t, n)
		}
		if p.cursor.At() != at {
			t.Errorf("Distance changed the index from %d to %d", at, p.cursor.At())
		}
	}
}

// P9.3: a sweep makes as many visits before that of an index.
func TestDistanceIsOfSweep(t *testing.T) {
	for at := range 20 {
		for n := 1; n < 9; n++ {
			for i := range n {
				c := newPair(t, at).cursor
				distance := c.Distance(n, i)
				ready := make([]bool, n)
				ready[i] = true
				if paid, made := c.Sweep(ready, n, 1); !slices.Equal(paid, []int{i}) || made != distance+1 {
					t.Errorf("from %d: Distance(%d, %d) = %d, but visit %d is the one of %v", at, n, i, distance, made, paid)
				}
				if d := c.Distance(n, i); d != n-1 {
					t.Errorf("after the visit of %d: Distance(%d, %d) = %d; want %d", i, n, i, d, n-1)
				}
			}
		}
	}
}

// P9.3: arguments for which there is no distance.
func TestNoDistance(t *testing.T) {
	for _, at := range []int{0, 1, 4, 100} {
		c := newPair(t, at).cursor
		for _, x := range [][2]int{
			{0, 0}, {0, 1}, {0, -1}, {0, math.MinInt}, {0, math.MaxInt},
			{-1, -1}, {-1, 0}, {-5, -2}, {-5, 2}, {math.MinInt, 0}, {math.MinInt, math.MinInt}, {math.MinInt, math.MaxInt},
			{5, -1}, {5, -5}, {5, 5}, {5, 6}, {5, math.MinInt}, {5, math.MaxInt}, {1, 1},
			{math.MaxInt, -1}, {math.MaxInt, math.MinInt}, {math.MaxInt, math.MaxInt}, {math.MaxInt - 1, math.MaxInt},
		} {
			if d := c.Distance(x[0], x[1]); d != -1 {
				t.Errorf("from %d: Distance(%d, %d) = %d; want -1", at, x[0], x[1], d)
			}
		}
	}
}

// P9.3: the distance is the remainder of integers of any size.
func TestGreatDistances(t *testing.T) {
	numbers := []int{1, 2, 3, 99, 100, 101, 1 << 31, 1 << 32, 1 << 62, math.MaxInt - 101, math.MaxInt - 100, math.MaxInt - 1, math.MaxInt}
	for _, at := range []int{0, 1, 2, 100} {
		c := newPair(t, at).cursor
		for _, n := range numbers {
			for _, i := range append(numbers, 0) {
				if i >= n {
					continue
				}
				difference := new(big.Int).Sub(big.NewInt(int64(i)), big.NewInt(int64(at)))
				want := new(big.Int).Mod(difference, big.NewInt(int64(n)))
				if d := c.Distance(n, i); int64(d) != want.Int64() {
					t.Errorf("from %d: Distance(%d, %d) = %d; want %v", at, n, i, d, want)
				}
			}
		}
	}
}

// P9.4: the quotients of small numbers, counted.
func TestBlocks(t *testing.T) {
	for n := -2; n < 40; n++ {
		for visits := -2; visits < 42; visits++ {
			for pays := -2; pays < 42; pays++ {
				want := 0
				if n > 0 && visits > 0 && pays > 0 {
					for rest := n; rest > 0; rest -= min(visits, pays) {
						want++
					}
				}
				if got := cursor.Blocks(n, visits, pays); got != want {
					t.Errorf("Blocks(%d, %d, %d) = %d; want %d", n, visits, pays, got, want)
				}
			}
		}
	}
}

// P9.4: the quotients of any ints, among them those for which a sum of two would overflow.
func TestBlocksOfAnyInts(t *testing.T) {
	numbers := []int{
		math.MinInt, math.MinInt + 1, -math.MaxInt / 2, -1, 0, 1, 2, 3, 1 << 31, 1<<32 + 1,
		math.MaxInt / 2, math.MaxInt/2 + 1, math.MaxInt - 2, math.MaxInt - 1, math.MaxInt,
	}
	for _, n := range numbers {
		for _, visits := range numbers {
			for _, pays := range numbers {
				want := new(big.Int)
				if n > 0 && visits > 0 && pays > 0 {
					divisor, rest := big.NewInt(int64(min(visits, pays))), new(big.Int)
					want.DivMod(big.NewInt(int64(n)), divisor, rest)
					want.Add(want, big.NewInt(int64(rest.Sign())))
				}
				if got := cursor.Blocks(n, visits, pays); int64(got) != want.Int64() {
					t.Errorf("Blocks(%d, %d, %d) = %d; want %v", n, visits, pays, got, want)
				}
			}
		}
	}
}

// mark notes which elements a sweep of these many visits from the index visits, by the definition of a sweep.
func mark(visited []bool, at, made int) {
	for v := range made {
		visited[(at+v)%len(visited)] = true
	}
}

// P9.5: sweeps with at least some budget visit each index in time, whatever is ready.
func TestEachIndexIsVisitedInTime(t *testing.T) {
	random := rand.New(rand.NewSource(5))
	for n := 1; n < 14; n++ {
		for visits := 1; visits < 16; visits++ {
			for pays := 1; pays < 16; pays++ {
				for at := range 2 * n {
					c := newPair(t, at).cursor
					visited := make([]bool, n)
					for range cursor.Blocks(n, visits, pays) {
						ready := make([]bool, n)
						for i := range ready {
							ready[i] = random.Intn(6) > 0
						}
						before := c.At() % n
						_, made := c.Sweep(ready, visits+random.Intn(2), pays+random.Intn(2))
						mark(visited, before, made)
					}
					if slices.Contains(visited, false) {
						t.Fatalf("from %d: %d sweeps over %d elements with %d visits and %d payments visited %v only",
							at, cursor.Blocks(n, visits, pays), n, visits, pays, visited)
					}
				}
			}
		}
	}
}

// P9.4 and P9.5: if all elements are ready, the last index is visited in the last one of these sweeps and not before.
func TestBlocksIsLeast(t *testing.T) {
	for n := 1; n < 30; n++ {
		for visits := 1; visits < 32; visits++ {
			for pays := 1; pays < 32; pays++ {
				c := cursor.New()
				sweeps := 0
				for found := false; !found; sweeps++ {
					paid, _ := c.Sweep(allReady(n), visits, pays)
					found = slices.Contains(paid, n-1)
				}
				if blocks := cursor.Blocks(n, visits, pays); blocks != sweeps {
					t.Errorf("Blocks(%d, %d, %d) = %d; the last index is visited in sweep %d", n, visits, pays, blocks, sweeps)
				}
			}
		}
	}
}

// Rule 4: the argument is neither modified, nor kept, nor read beyond its length.
func TestReadyIsOnlyRead(t *testing.T) {
	c := cursor.New()
	all := []bool{false, true, true, true, true}
	if paid, made := c.Sweep(all[:2], 9, 9); !slices.Equal(paid, []int{1}) || made != 2 || c.At() != 0 {
		t.Errorf("Sweep = %v, %d, At %d; want 1, 2, At 0", paid, made, c.At())
	}
	if !slices.Equal(all, []bool{false, true, true, true, true}) {
		t.Errorf("the argument has become %v", all)
	}
	all[0], all[1] = true, false
	if paid, made := c.Sweep(all[:2], 9, 9); !slices.Equal(paid, []int{0}) || made != 2 {
		t.Errorf("after a change of the argument: Sweep = %v, %d; want 0, 2", paid, made)
	}
}

// Rule 4: no result shares memory with the cursor or with another result.
func TestResultsAreCopies(t *testing.T) {
	p := newPair(t, 2)
	first, _ := p.cursor.Sweep(allReady(6), 6, 6)
	second, _ := p.cursor.Sweep(allReady(6), 6, 6)
	for i := range first[:cap(first)] {
		first[:cap(first)][i] = 99
	}
	if !slices.Equal(second, []int{2, 3, 4, 5, 0, 1}) {
		t.Errorf("a change of one result changed another one to %v", second)
	}
	p.sweep(t, allReady(6), 6, 6)
	if !slices.Equal(second, []int{2, 3, 4, 5, 0, 1}) {
		t.Errorf("a sweep changed a former result to %v", second)
	}
}

func TestNilCursor(t *testing.T) {
	var c *cursor.Cursor
	for _, n := range []int{math.MinInt, -1, 0, 1, 3, math.MaxInt} {
		if paid, made := c.Sweep(allReady(3), n, n); len(paid) != 0 || made != 0 {
			t.Errorf("nil cursor: Sweep of %d visits = %v, %d", n, paid, made)
		}
		for _, i := range []int{math.MinInt, -1, 0, 1, 2, math.MaxInt} {
			if d := c.Distance(n, i); d != 0 {
				t.Errorf("nil cursor: Distance(%d, %d) = %d; want 0", n, i, d)
			}
		}
	}
	if paid, made := c.Sweep(nil, 1, 1); len(paid) != 0 || made != 0 {
		t.Errorf("nil cursor: Sweep of no element = %v, %d", paid, made)
	}
	if c.At() != 0 {
		t.Errorf("nil cursor: At = %d", c.At())
	}
}

// P2: cursors that were created separately are independent of each other.
func TestIndependent(t *testing.T) {
	a, b := newPair(t, 0), newPair(t, 0)
	a.sweep(t, allReady(5), 3, 5)
	b.sweep(t, allReady(5), 1, 5)
	a.sweep(t, allReady(5), 4, 5)
	b.sweep(t, allReady(5), 4, 5)
	b.distances(t, 5)
	a.distances(t, 5)
}

// Rule 6: the functions of the package may be called concurrently.
func TestConcurrent(t *testing.T) {
	var workers sync.WaitGroup
	for n := range 8 {
		workers.Go(func() {
			c := cursor.New()
			for range 100 {
				c.Sweep(allReady(n+2), 1, 1)
			}
			if want := 100 % (n + 2); c.At() != want || c.Distance(n+2, want) != 0 || cursor.Blocks(n+2, 1, 1) != n+2 {
				t.Errorf("worker %d: At %d; want %d", n, c.At(), want)
			}
		})
	}
	workers.Wait()
}
