package lanes_test

import (
	"math"
	"math/rand"
	"slices"
	"sync"
	"testing"

	"egress/api"
	"egress/lanes"
)

// longest is the greatest size of the queues.
const longest = 4096

// noClasses are numbers that are no class, and to which arithmetic or a conversion could give one.
var noClasses = []int{math.MinInt, math.MinInt + 1, -1 << 32, -256, -2, -1, 2, 3, 4, 256, 257, 1 << 32, 1<<32 + 1, math.MaxInt - 1, math.MaxInt}

// exit is an exit that was appended.
type exit struct{ class, index int }

// model is the specification of lanes: all exits in the order in which they were appended.
type model struct {
	size  int
	exits []exit
}

// all returns the indices of a class in the order in which they were appended.
func (m *model) all(class int) []int {
	var all []int
	for _, e := range m.exits {
		if e.class == class {
			all = append(all, e.index)
		}
	}
	return all
}

func (m *model) push(class, index int) api.Errno {
	if class != 0 && class != 1 {
		return api.ErrOp
	}
	if len(m.all(class)) >= m.size {
		return api.ErrQueue
	}
	m.exits = append(m.exits, exit{class, index})
	return api.OK
}

// first returns the position of the exit that is processed next, or -1.
func (m *model) first() int {
	for _, class := range []int{0, 1} {
		for i, e := range m.exits {
			if e.class == class {
				return i
			}
		}
	}
	return -1
}

func (m *model) head() (int, int, bool) {
	i := m.first()
	if i < 0 {
		return 0, 0, false
	}
	return m.exits[i].index, m.exits[i].class, true
}

func (m *model) pop() (int, int, bool) {
	index, class, ok := m.head()
	if ok {
		m.exits = slices.Delete(m.exits, m.first(), m.first()+1)
	}
	return index, class, ok
}

func (m *model) ahead(class int) []int {
	switch class {
	case 0:
		return m.all(0)
	case 1:
		return append(m.all(0), m.all(1)...)
	}
	return nil
}

func (m *model) free(class int) int {
	if class != 0 && class != 1 {
		return 0
	}
	return m.size - len(m.all(class))
}

// pair is lanes together with their specification.
type pair struct {
	lanes *lanes.Lanes
	model model
}

func newPair(t *testing.T, size int) *pair {
	t.Helper()
	p := &pair{lanes.New(size), model{size: size}}
	if p.lanes == nil {
		t.Fatalf("New(%d) = nil", size)
	}
	return p
}

func (p *pair) push(t *testing.T, class, index int) {
	t.Helper()
	before := slices.Clone(p.model.exits)
	want := p.model.push(class, index)
	if got := p.lanes.Push(class, index); got != want {
		t.Fatalf("size %d with %v: Push(%d, %d) = %d; want %d", p.model.size, before, class, index, got, want)
	}
}

func (p *pair) pop(t *testing.T) {
	t.Helper()
	before := slices.Clone(p.model.exits)
	wantIndex, wantClass, wantOK := p.model.pop()
	index, class, ok := p.lanes.Pop()
	if index != wantIndex || class != wantClass || ok != wantOK {
		t.Fatalf("size %d with %v: Pop = %d, %d, %v; want %d, %d, %v", p.model.size, before, index, class, ok, wantIndex, wantClass, wantOK)
	}
}

// checkHead compares the exit that is processed next.
func (p *pair) checkHead(t *testing.T) {
	t.Helper()
	wantIndex, wantClass, wantOK := p.model.head()
	index, class, ok := p.lanes.Head()
	if index != wantIndex || class != wantClass || ok != wantOK {
		t.Fatalf("size %d with %v: Head = %d, %d, %v; want %d, %d, %v", p.model.size, p.model.exits, index, class, ok, wantIndex, wantClass, wantOK)
	}
}

// checkClass compares all that can be read about a class, or about a number that is none.
func (p *pair) checkClass(t *testing.T, class int) {
	t.Helper()
	if got, want := p.lanes.Len(class), len(p.model.all(class)); got != want {
		t.Fatalf("size %d with %v: Len(%d) = %d; want %d", p.model.size, p.model.exits, class, got, want)
	}
	if got, want := p.lanes.Free(class), p.model.free(class); got != want {
		t.Fatalf("size %d with %v: Free(%d) = %d; want %d", p.model.size, p.model.exits, class, got, want)
	}
	if got, want := p.lanes.All(class), p.model.all(class); !slices.Equal(got, want) {
		t.Fatalf("size %d with %v: All(%d) = %v; want %v", p.model.size, p.model.exits, class, got, want)
	}
	if got, want := p.lanes.Ahead(class), p.model.ahead(class); !slices.Equal(got, want) {
		t.Fatalf("size %d with %v: Ahead(%d) = %v; want %v", p.model.size, p.model.exits, class, got, want)
	}
}

// check compares all that can be read from the lanes with the model. It reads twice, because reading must not change anything.
func (p *pair) check(t *testing.T) {
	t.Helper()
	for range 2 {
		p.checkHead(t)
		p.checkClass(t, api.Forced)
		p.checkClass(t, api.Voluntary)
	}
}

// P12.1: both sides of the limits of the size.
func TestNew(t *testing.T) {
	for _, size := range []int{1, 2, 3, 16, 100, longest - 1, longest} {
		p := newPair(t, size)
		p.check(t)
		p.pop(t)
		p.check(t)
	}
	for _, size := range []int{math.MinInt, -longest, -2, -1, 0, longest + 1, 2 * longest, 1 << 20, 1<<32 + 1, math.MaxInt} {
		if lanes.New(size) != nil {
			t.Errorf("New(%d) is not nil", size)
		}
	}
}

// P12.1 and P12.2: each queue has room for size validators, whatever the other one contains.
func TestEachQueueHasItsSize(t *testing.T) {
	for _, size := range []int{1, 2, 5, 33, longest} {
		for _, first := range []int{api.Forced, api.Voluntary} {
			p := newPair(t, size)
			second := 1 - first
			for i := range size {
				if code := p.lanes.Push(first, i); code != api.OK {
					t.Fatalf("size %d: Push(%d, %d) = %d", size, first, i, code)
				}
			}
			if code := p.lanes.Push(first, 7); code != api.ErrQueue {
				t.Errorf("size %d: Push to the full queue %d = %d; want ErrQueue", size, first, code)
			}
			if p.lanes.Len(first) != size || p.lanes.Free(first) != 0 || p.lanes.Len(second) != 0 || p.lanes.Free(second) != size {
				t.Errorf("size %d: Len %d and %d, Free %d and %d", size, p.lanes.Len(first), p.lanes.Len(second), p.lanes.Free(first), p.lanes.Free(second))
			}
			for i := range size {
				if code := p.lanes.Push(second, -i); code != api.OK {
					t.Fatalf("size %d: Push(%d, %d) = %d", size, second, -i, code)
				}
			}
			if code := p.lanes.Push(second, 7); code != api.ErrQueue {
				t.Errorf("size %d: Push to the full queue %d = %d; want ErrQueue", size, second, code)
			}
		}
	}
}

// P12.2: an exit that is refused changes nothing, and a removed one makes room in its own queue only.
func TestFullQueue(t *testing.T) {
	p := newPair(t, 2)
	for range 3 {
		for _, class := range []int{api.Voluntary, api.Forced} {
			for index := range 3 {
				p.push(t, class, 10*class+index)
				p.check(t)
			}
		}
		// The removed exit is a forced one.
		p.pop(t)
		p.push(t, api.Voluntary, 50)
		p.check(t)
		p.push(t, api.Forced, 51)
		p.check(t)
		for range 5 {
			p.pop(t)
			p.check(t)
		}
	}
}

// P12.2: any int is an index, and the same one may be appended several times and to both queues.
func TestAnyIndex(t *testing.T) {
	indices := []int{math.MinInt, math.MinInt + 1, -1 << 32, -2, -1, 0, 0, 1, 2, -1, 1 << 20, 1 << 32, math.MaxInt - 1, math.MaxInt, math.MaxInt}
	p := newPair(t, len(indices))
	for _, index := range indices {
		p.push(t, api.Voluntary, index)
		p.push(t, api.Forced, index)
		p.check(t)
	}
	for range 2*len(indices) + 1 {
		p.pop(t)
		p.check(t)
	}
}

// P12.2 and P12.5: there are two classes only; that there is no such class is reported before a full queue.
func TestNoClass(t *testing.T) {
	for _, exits := range [][]exit{nil, {{0, 3}}, {{1, 4}}, {{0, 3}, {1, 4}}} {
		p := newPair(t, 1)
		for _, e := range exits {
			p.push(t, e.class, e.index)
		}
		for _, class := range noClasses {
			if code := p.lanes.Push(class, 5); code != api.ErrOp {
				t.Errorf("with %v: Push(%d, 5) = %d; want ErrOp", exits, class, code)
			}
			if p.lanes.Len(class) != 0 || p.lanes.Free(class) != 0 || len(p.lanes.All(class)) != 0 || len(p.lanes.Ahead(class)) != 0 {
				t.Errorf("with %v, class %d: Len %d, Free %d, All %v, Ahead %v", exits, class, p.lanes.Len(class), p.lanes.Free(class), p.lanes.All(class), p.lanes.Ahead(class))
			}
			p.check(t)
		}
	}
}

// P12.3: the examples of the document and of the order of processing.
func TestOrderOfProcessing(t *testing.T) {
	l := lanes.New(4)
	if l.Push(api.Voluntary, 3) != api.OK || l.Push(api.Forced, 5) != api.OK {
		t.Error("Push is not OK")
	}
	expectExit(t, l, 5, api.Forced)
	l.Push(api.Voluntary, 2)
	l.Push(api.Forced, 9)
	l.Push(api.Forced, 1)
	expectExit(t, l, 9, api.Forced)
	l.Push(api.Forced, 8)
	expectExit(t, l, 1, api.Forced)
	expectExit(t, l, 8, api.Forced)
	expectExit(t, l, 3, api.Voluntary)
	// A forced exit overtakes a voluntary one that was already at the head.
	l.Push(api.Forced, 0)
	expectExit(t, l, 0, api.Forced)
	expectExit(t, l, 2, api.Voluntary)
	for range 2 {
		if index, class, ok := l.Head(); index != 0 || class != 0 || ok {
			t.Errorf("Head of empty queues = %d, %d, %v", index, class, ok)
		}
		if index, class, ok := l.Pop(); index != 0 || class != 0 || ok {
			t.Errorf("Pop of empty queues = %d, %d, %v", index, class, ok)
		}
	}
}

// expectExit compares the exit that Head returns and Pop removes.
func expectExit(t *testing.T, l *lanes.Lanes, index, class int) {
	t.Helper()
	for range 2 {
		if gotIndex, gotClass, ok := l.Head(); gotIndex != index || gotClass != class || !ok {
			t.Errorf("Head = %d, %d, %v; want %d, %d, true", gotIndex, gotClass, ok, index, class)
		}
	}
	if gotIndex, gotClass, ok := l.Pop(); gotIndex != index || gotClass != class || !ok {
		t.Errorf("Pop = %d, %d, %v; want %d, %d, true", gotIndex, gotClass, ok, index, class)
	}
}

// P12.4: for a voluntary exit, the forced ones are ahead too, whenever they were appended.
func TestAhead(t *testing.T) {
	l := lanes.New(3)
	for _, e := range []exit{{1, 10}, {0, 20}, {1, 11}, {0, 21}} {
		l.Push(e.class, e.index)
	}
	if got, want := l.Ahead(api.Forced), []int{20, 21}; !slices.Equal(got, want) {
		t.Errorf("Ahead(Forced) = %v; want %v", got, want)
	}
	if got, want := l.Ahead(api.Voluntary), []int{20, 21, 10, 11}; !slices.Equal(got, want) {
		t.Errorf("Ahead(Voluntary) = %v; want %v", got, want)
	}
	l.Push(api.Voluntary, 12)
	// The queue of voluntary exits is full now, which makes no difference.
	if got, want := l.Ahead(api.Voluntary), []int{20, 21, 10, 11, 12}; !slices.Equal(got, want) {
		t.Errorf("Ahead(Voluntary) = %v; want %v", got, want)
	}
}

// P12.4: an exit that is appended is removed right after those that were ahead of it, if no other one is appended.
func TestAheadIsRemovedFirst(t *testing.T) {
	for _, class := range []int{api.Forced, api.Voluntary} {
		for forced := range 4 {
			for voluntary := range 4 {
				p := newPair(t, 5)
				for i := range voluntary {
					p.push(t, api.Voluntary, 10+i)
				}
				for i := range forced {
					p.push(t, api.Forced, 20+i)
				}
				ahead := p.lanes.Ahead(class)
				p.push(t, class, 99)
				for _, index := range append(ahead, 99) {
					if got, _, ok := p.lanes.Pop(); got != index || !ok {
						t.Errorf("%d forced and %d voluntary exits, class %d: Pop = %d, %v; want %d", forced, voluntary, class, got, ok, index)
					}
				}
			}
		}
	}
}

// P12.2 to P12.5: all sequences of 8 calls of Push and Pop, with small sizes.
func TestAllShortSequences(t *testing.T) {
	const length, calls = 8, 3
	sequences := 1
	for range length {
		sequences *= calls
	}
	for size := 1; size <= 3; size++ {
		for s := range sequences {
			p := newPair(t, size)
			for i := range length {
				switch call := s % calls; call {
				case api.Forced, api.Voluntary:
					p.push(t, call, i+1)
				default:
					p.pop(t)
				}
				s /= calls
				p.check(t)
			}
		}
	}
}

// P12.2 to P12.5: long sequences of calls, with invalid classes among them, while the queues grow and shrink.
func TestRandomSequences(t *testing.T) {
	random := rand.New(rand.NewSource(12))
	for range 60 {
		p := newPair(t, 1+random.Intn(12))
		var pops int
		for step := range 400 {
			if step%50 == 0 {
				pops = 2 + random.Intn(7)
			}
			switch n := random.Intn(10); {
			case n < pops:
				p.pop(t)
			case n == 9:
				p.push(t, noClasses[random.Intn(len(noClasses))], step)
			default:
				p.push(t, random.Intn(2), random.Int()-random.Int())
			}
			p.check(t)
		}
	}
}

// P12.3: the largest queues, filled and emptied twice.
func TestLargest(t *testing.T) {
	l := lanes.New(longest)
	for round := range 2 {
		for i := range longest {
			l.Push(api.Voluntary, round+2*i)
			l.Push(api.Forced, round-i)
		}
		ahead := l.Ahead(api.Voluntary)
		if len(ahead) != 2*longest || len(l.All(api.Forced)) != longest {
			t.Fatalf("Ahead has the length %d, and All %d", len(ahead), len(l.All(api.Forced)))
		}
		for i, want := range ahead {
			class, wantIndex := api.Forced, round-i
			if i >= longest {
				class, wantIndex = api.Voluntary, round+2*(i-longest)
			}
			if want != wantIndex {
				t.Fatalf("Ahead has the index %d at %d; want %d", want, i, wantIndex)
			}
			expectExit(t, l, want, class)
		}
	}
}

// On nil lanes, Push returns ErrNil, and the other methods return zero values.
func TestNil(t *testing.T) {
	for _, l := range []*lanes.Lanes{nil, lanes.New(0), lanes.New(longest + 1)} {
		for _, class := range append([]int{api.Forced, api.Voluntary}, noClasses...) {
			for _, index := range []int{math.MinInt, 0, 1, math.MaxInt} {
				if code := l.Push(class, index); code != api.ErrNil {
					t.Errorf("Push(%d, %d) = %d; want ErrNil", class, index, code)
				}
			}
			if l.Len(class) != 0 || l.Free(class) != 0 || len(l.All(class)) != 0 || len(l.Ahead(class)) != 0 {
				t.Errorf("class %d: Len %d, Free %d, All %v, Ahead %v", class, l.Len(class), l.Free(class), l.All(class), l.Ahead(class))
			}
		}
		if index, class, ok := l.Head(); index != 0 || class != 0 || ok {
			t.Errorf("Head = %d, %d, %v", index, class, ok)
		}
		if index, class, ok := l.Pop(); index != 0 || class != 0 || ok {
			t.Errorf("Pop = %d, %d, %v", index, class, ok)
		}
	}
}

// Rule 4: results share no memory with the lanes or with each other.
func TestResultsAreCopies(t *testing.T) {
	p := newPair(t, 6)
	for i := range 4 {
		p.push(t, i%2, i+1)
	}
	for _, class := range []int{api.Forced, api.Voluntary} {
		all, ahead, again := p.lanes.All(class), p.lanes.Ahead(class), p.lanes.Ahead(class)
		want := slices.Clone(again)
		clear(all[:cap(all)])
		clear(ahead[:cap(ahead)])
		p.check(t)
		if !slices.Equal(again, want) {
			t.Errorf("a change of other results made Ahead(%d) %v; want %v", class, again, want)
		}
		p.push(t, class, 9)
		p.pop(t)
		p.pop(t)
		if !slices.Equal(again, want) {
			t.Errorf("later calls made Ahead(%d) %v; want %v", class, again, want)
		}
	}
}

// P2: lanes that were created separately are independent of each other.
func TestLanesAreIndependent(t *testing.T) {
	first, second := newPair(t, 2), newPair(t, 2)
	for i := range 3 {
		first.push(t, api.Forced, i)
		first.push(t, api.Voluntary, i)
		second.check(t)
	}
	second.push(t, api.Voluntary, 7)
	second.pop(t)
	first.check(t)
	second.check(t)
}

// Rule 6: the functions of the package may be called concurrently.
func TestConcurrent(t *testing.T) {
	var workers sync.WaitGroup
	for i := range 8 {
		workers.Go(func() {
			l := lanes.New(i + 1)
			for n := range 200 {
				l.Push(api.Voluntary, n)
				l.Push(api.Forced, i)
				first, _, _ := l.Pop()
				second, class, ok := l.Pop()
				if first != i || second != n || class != api.Voluntary || !ok || l.Free(class) != i+1 {
					t.Errorf("worker %d: Pop = %d, and then %d, %d, %v", i, first, second, class, ok)
					return
				}
			}
		})
	}
	workers.Wait()
}
