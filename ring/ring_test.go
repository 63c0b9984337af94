package ring_test

import (
	"math"
	"runtime"
	"slices"
	"testing"
	"weak"

	"egress/ring"
)

// longest is the greatest size of a ring.
const longest = 1 << 20

// queue is the specification of a ring: a slice with a maximum length.
type queue struct {
	size     int
	elements []int
}

func (q *queue) push(l []int) int {
	n := 0
	for _, x := range l {
		if len(q.elements) < q.size {
			q.elements = append(q.elements, x)
			n++
		}
	}
	return n
}

func (q *queue) pop() (int, bool) {
	if len(q.elements) == 0 {
		return 0, false
	}
	x := q.elements[0]
	q.elements = q.elements[1:]
	return x, true
}

func (q *queue) peek(i int) (int, bool) {
	if i < 0 || i >= len(q.elements) {
		return 0, false
	}
	return q.elements[i], true
}

// pair is a ring with its specification. Every element that is pushed is different and not 0.
type pair struct {
	ring  *ring.Ring[int]
	queue queue
	last  int
}

func newPair(size int) *pair {
	return &pair{ring: ring.New[int](size), queue: queue{size: size}}
}

func (p *pair) push(t *testing.T, n int) {
	t.Helper()
	l := make([]int, n)
	for i := range l {
		p.last++
		l[i] = p.last
	}
	before := slices.Clone(l)
	want := p.queue.push(l)
	if got := p.ring.Push(l...); got != want {
		t.Fatalf("size %d: Push of %d elements = %d; want %d", p.queue.size, n, got, want)
	}
	if !slices.Equal(l, before) {
		t.Fatalf("Push changed %v to %v", before, l)
	}
	// The elements may be modified after the call.
	clear(l)
}

func (p *pair) pop(t *testing.T) {
	t.Helper()
	want, wantOK := p.queue.pop()
	if got, ok := p.ring.Pop(); got != want || ok != wantOK {
		t.Fatalf("size %d: Pop = %d, %v; want %d, %v", p.queue.size, got, ok, want, wantOK)
	}
}

func (p *pair) clear() {
	p.ring.Clear()
	p.queue.elements = nil
}

// checkSums compares what takes no time that depends on the number of elements.
func (p *pair) checkSums(t *testing.T) {
	t.Helper()
	n := len(p.queue.elements)
	if p.ring.Len() != n || p.ring.Free() != p.queue.size-n {
		t.Fatalf("size %d: Len %d and Free %d; want %d and %d", p.queue.size, p.ring.Len(), p.ring.Free(), n, p.queue.size-n)
	}
	for _, i := range []int{math.MinInt, -n - 1, -n, -1, 0, 1, n / 2, n - 1, n, n + 1, p.queue.size, math.MaxInt} {
		p.checkPeek(t, i)
	}
}

func (p *pair) checkPeek(t *testing.T, i int) {
	t.Helper()
	want, wantOK := p.queue.peek(i)
	if got, ok := p.ring.Peek(i); got != want || ok != wantOK {
		t.Fatalf("size %d: Peek(%d) = %d, %v; want %d, %v", p.queue.size, i, got, ok, want, wantOK)
	}
}

func (p *pair) check(t *testing.T) {
	t.Helper()
	p.checkSums(t)
	for i := range p.queue.size {
		p.checkPeek(t, i)
	}
	if got := p.ring.All(); !slices.Equal(got, p.queue.elements) {
		t.Fatalf("size %d: All = %v; want %v", p.queue.size, got, p.queue.elements)
	}
}

// P4.1
func TestNew(t *testing.T) {
	for _, size := range []int{
		math.MinInt, -longest, -2, -1, 0, 1, 2, 3, 100, longest - 1, longest, longest + 1, 1 << 32, math.MaxInt,
	} {
		r := ring.New[int](size)
		if (r == nil) != (size < 1 || size > longest) {
			t.Errorf("New(%d) = nil is %v", size, r == nil)
			continue
		}
		if r == nil {
			continue
		}
		if r.Len() != 0 || r.Free() != size || len(r.All()) != 0 {
			t.Errorf("New(%d): Len %d, Free %d, All %v", size, r.Len(), r.Free(), r.All())
		}
		if x, ok := r.Pop(); x != 0 || ok {
			t.Errorf("New(%d): Pop = %d, %v", size, x, ok)
		}
		if x, ok := r.Peek(0); x != 0 || ok {
			t.Errorf("New(%d): Peek(0) = %d, %v", size, x, ok)
		}
	}
}

// checkNil checks the results of a nil ring.
func checkNil(t *testing.T, r *ring.Ring[int]) {
	t.Helper()
	for range 2 {
		if r.Push() != 0 || r.Push(1) != 0 || r.Push(1, 2, 3) != 0 || r.Len() != 0 || r.Free() != 0 || len(r.All()) != 0 {
			t.Errorf("nil ring: Push %d, Len %d, Free %d, All %v", r.Push(1), r.Len(), r.Free(), r.All())
		}
		if x, ok := r.Pop(); x != 0 || ok {
			t.Errorf("nil ring: Pop = %d, %v", x, ok)
		}
		for _, i := range []int{math.MinInt, -1, 0, 1, math.MaxInt} {
			if x, ok := r.Peek(i); x != 0 || ok {
				t.Errorf("nil ring: Peek(%d) = %d, %v", i, x, ok)
			}
		}
		r.Clear()
	}
}

func TestNilRing(t *testing.T) {
	checkNil(t, nil)
	checkNil(t, ring.New[int](0))
	checkNil(t, ring.New[int](longest+1))
}

// P4.2: the example of the document.
func TestExample(t *testing.T) {
	r := ring.New[int](2)
	if n := r.Push(1, 2, 3); n != 2 {
		t.Errorf("Push(1, 2, 3) = %d; want 2", n)
	}
	for _, want := range []int{1, 2} {
		if x, ok := r.Pop(); x != want || !ok {
			t.Errorf("Pop = %d, %v; want %d, true", x, ok, want)
		}
	}
	if x, ok := r.Pop(); x != 0 || ok {
		t.Errorf("Pop of an empty ring = %d, %v", x, ok)
	}
}

// P4.2 to P4.4: each number of elements is pushed at each place of the ring, at each number of elements that it has.
func TestEveryPlace(t *testing.T) {
	for size := 1; size <= 9; size++ {
		for place := range size {
			for had := range size + 1 {
				for n := range size + 3 {
					p := newPair(size)
					p.push(t, size)
					for range size {
						p.pop(t)
					}
					for range place {
						p.push(t, 1)
						p.pop(t)
					}
					p.push(t, had)
					p.check(t)
					p.push(t, n)
					p.check(t)
					for range size + 1 {
						p.pop(t)
						p.check(t)
					}
				}
			}
		}
	}
}

// P4.2 to P4.5: all short sequences of calls, with rings of small sizes.
func TestEverySequence(t *testing.T) {
	const length, calls = 5, 6
	sequences := 1
	for range length {
		sequences *= calls
	}
	for size := 1; size <= 4; size++ {
		for s := range sequences {
			p := newPair(size)
			for range length {
				switch call := s % calls; call {
				case 4:
					p.pop(t)
				case 5:
					p.clear()
				default:
					p.push(t, call)
				}
				s /= calls
				p.check(t)
			}
		}
	}
}

// P4.5: long alternations of pushes and pops of different lengths.
func TestAlternate(t *testing.T) {
	for _, size := range []int{1, 2, 3, 7, 8, 16, 31, 64, 100} {
		p := newPair(size)
		for step := range 4 * size {
			p.push(t, step%(size+3))
			p.check(t)
			for range step * 7 % (size + 2) {
				p.pop(t)
			}
			p.check(t)
		}
		for range size + 1 {
			p.pop(t)
			p.check(t)
		}
	}
}

// P4.5: a ring that always has a few elements only, far more often than it has places.
func TestRunAround(t *testing.T) {
	for _, size := range []int{1, 2, 5, 1000} {
		for kept := range min(size, 4) {
			p := newPair(size)
			p.push(t, kept)
			for range 5000 {
				p.push(t, 1)
				p.checkSums(t)
				p.pop(t)
			}
			p.check(t)
		}
	}
}

// P4.2: elements that are pushed one by one, all at once, and too many of them, in the largest ring.
func TestLargest(t *testing.T) {
	single := newPair(longest)
	for range longest + 1 {
		single.push(t, 1)
	}
	single.check(t)

	p := newPair(longest)
	p.push(t, longest+5)
	p.check(t)
	for range longest / 2 {
		p.pop(t)
	}
	p.checkSums(t)
	p.push(t, longest)
	p.check(t)
	for range longest + 1 {
		p.pop(t)
	}
	p.checkSums(t)
}

// P4.4: a cleared ring is like a new one, wherever its elements were.
func TestClear(t *testing.T) {
	for size := 1; size <= 6; size++ {
		for popped := range size + 1 {
			for more := range size + 1 {
				p := newPair(size)
				p.push(t, size)
				for range popped {
					p.pop(t)
				}
				p.push(t, more)
				p.clear()
				p.check(t)
				p.pop(t)
				p.clear()
				p.push(t, more)
				p.check(t)
				p.push(t, size)
				p.check(t)
			}
		}
	}
}

// P4.2: without elements, Push appends nothing.
func TestPushNothing(t *testing.T) {
	p := newPair(2)
	for range 4 {
		p.push(t, 0)
		if n := p.ring.Push(); n != 0 {
			t.Errorf("Push() = %d", n)
		}
		p.check(t)
		p.push(t, 1)
	}
}

// P4.3: reading a ring does not change it.
func TestReadTwice(t *testing.T) {
	p := newPair(3)
	p.push(t, 3)
	p.pop(t)
	p.push(t, 1)
	for range 3 {
		p.check(t)
	}
}

// P4.2, P4.3: an element that is a zero value is an element like others.
func TestZeroElements(t *testing.T) {
	r := ring.New[int](3)
	r.Push(0, 0)
	if x, ok := r.Peek(1); x != 0 || !ok || r.Len() != 2 || !slices.Equal(r.All(), []int{0, 0}) {
		t.Errorf("Peek(1) = %d, %v, Len %d, All %v", x, ok, r.Len(), r.All())
	}
	for i := range 3 {
		if x, ok := r.Pop(); x != 0 || ok != (i < 2) {
			t.Errorf("Pop number %d = %d, %v", i, x, ok)
		}
	}
}

// Rule 4: no result shares memory with the ring or with another result.
func TestResultsAreCopies(t *testing.T) {
	for popped := range 4 {
		r := ring.New[int](4)
		r.Push(1, 2, 3, 4)
		for range popped {
			x, _ := r.Pop()
			r.Push(x + 4)
		}
		want := []int{popped + 1, popped + 2, popped + 3, popped + 4}
		a, b := r.All(), r.All()
		clear(a[:cap(a)])
		if !slices.Equal(b, want) || !slices.Equal(r.All(), want) {
			t.Errorf("after a change of a result: %v and %v; want %v", b, r.All(), want)
		}
		r.Clear()
		r.Push(9, 9, 9, 9)
		if !slices.Equal(b, want) {
			t.Errorf("after a change of the ring: %v; want %v", b, want)
		}
	}
}

// Rule 4: the ring keeps no part of an argument, and reads and writes nothing beyond its length.
func TestArgumentIsCopied(t *testing.T) {
	l := []int{1, 2, 3, 4}
	r := ring.New[int](4)
	if n := r.Push(l[:2]...); n != 2 {
		t.Errorf("Push = %d; want 2", n)
	}
	r.Push(8, 9)
	if !slices.Equal(l, []int{1, 2, 3, 4}) {
		t.Errorf("Push changed its argument to %v", l)
	}
	clear(l)
	if !slices.Equal(r.All(), []int{1, 2, 8, 9}) {
		t.Errorf("after a change of the argument: %v", r.All())
	}
}

// A ring may be given its own elements.
func TestPushItself(t *testing.T) {
	r := ring.New[int](5)
	r.Push(9, 9, 1, 2, 3)
	r.Pop()
	r.Pop()
	if n := r.Push(r.All()...); n != 2 || !slices.Equal(r.All(), []int{1, 2, 3, 1, 2}) {
		t.Errorf("Push of its own elements = %d, with All %v", n, r.All())
	}
}

// P2: rings that were created separately are independent of each other.
func TestIndependent(t *testing.T) {
	a, b, idle := ring.New[int](3), ring.New[int](3), ring.New[int](3)
	a.Push(1, 2, 3)
	b.Push(4, 5)
	a.Pop()
	b.Push(6)
	a.Push(7)
	if !slices.Equal(a.All(), []int{2, 3, 7}) || !slices.Equal(b.All(), []int{4, 5, 6}) || idle.Len() != 0 {
		t.Errorf("%v, %v and %v", a.All(), b.All(), idle.All())
	}
	a.Clear()
	if a.Len() != 0 || b.Len() != 3 || idle.Free() != 3 {
		t.Errorf("after Clear of the first one: %v, %v and %v", a.All(), b.All(), idle.All())
	}
}

// checkType checks a ring of any type with two different elements, neither of which is the zero value.
func checkType[T comparable](t *testing.T, one, two T) {
	t.Helper()
	var zero T
	r := ring.New[T](2)
	for range 3 {
		if n := r.Push(one, two, one); n != 2 || !slices.Equal(r.All(), []T{one, two}) {
			t.Errorf("Push = %d, with All %v", n, r.All())
		}
		if x, ok := r.Pop(); x != one || !ok {
			t.Errorf("Pop = %v, %v; want %v", x, ok, one)
		}
		r.Push(one)
		if x, ok := r.Peek(1); x != one || !ok {
			t.Errorf("Peek(1) = %v, %v; want %v", x, ok, one)
		}
		if x, ok := r.Peek(2); x != zero || ok {
			t.Errorf("Peek(2) = %v, %v", x, ok)
		}
		if x, ok := r.Pop(); x != two || !ok {
			t.Errorf("Pop = %v, %v; want %v", x, ok, two)
		}
		r.Pop()
		if x, ok := r.Pop(); x != zero || ok {
			t.Errorf("Pop of an empty ring = %v, %v", x, ok)
		}
	}
}

func TestTypes(t *testing.T) {
	checkType(t, "a", "b")
	checkType(t, [2]int{1, 2}, [2]int{2, 1})
	checkType(t, struct{ index, amount uint64 }{1, 2}, struct{ index, amount uint64 }{2, 1})
	checkType(t, new(int), new(int))
	checkType[any](t, 1, "b")
	checkType(t, byte(1), byte(255))
}

// P4.1: an empty element takes no memory, and is counted nevertheless.
func TestEmptyElements(t *testing.T) {
	r := ring.New[struct{}](3)
	if n := r.Push(make([]struct{}, 5)...); n != 3 || r.Len() != 3 || r.Free() != 0 || len(r.All()) != 3 {
		t.Errorf("Push = %d, Len %d, Free %d", n, r.Len(), r.Free())
	}
	for i := range 4 {
		if _, ok := r.Pop(); ok != (i < 3) {
			t.Errorf("Pop number %d = %v", i, ok)
		}
	}
}

// P1: a large ring of large elements is permitted, as long as it contains few of them.
func TestLargeElements(t *testing.T) {
	type page [1 << 16]byte
	for range 100 {
		r := ring.New[page](longest)
		if n := r.Push(page{1}, page{2}); n != 2 || r.Free() != longest-2 {
			t.Fatalf("Push = %d, Free %d", n, r.Free())
		}
		if x, ok := r.Pop(); x[0] != 1 || !ok {
			t.Fatalf("Pop = %d, %v", x[0], ok)
		}
	}
}

// fill pushes new elements, and returns references that do not keep them alive.
func fill(r *ring.Ring[*[64]byte], n int) []weak.Pointer[[64]byte] {
	var l []weak.Pointer[[64]byte]
	for range n {
		x := new([64]byte)
		r.Push(x)
		l = append(l, weak.Make(x))
	}
	return l
}

// alive returns how many of the elements are still kept.
func alive(l []weak.Pointer[[64]byte]) int {
	runtime.GC()
	n := 0
	for _, x := range l {
		if x.Value() != nil {
			n++
		}
	}
	return n
}

// The ring keeps no more than its elements: not what was popped, cleared or refused.
func TestReleases(t *testing.T) {
	r := ring.New[*[64]byte](5)
	l := fill(r, 7)
	for want := 5; want >= 3; want-- {
		if got := alive(l); got != want {
			t.Errorf("a ring with %d elements keeps %d", want, got)
		}
		r.Pop()
	}
	l = append(l, fill(r, 2)...)
	if got := alive(l); got != 4 {
		t.Errorf("a ring with 4 elements keeps %d", got)
	}
	r.Clear()
	if got := alive(l); got != 0 {
		t.Errorf("a cleared ring keeps %d elements", got)
	}
	runtime.KeepAlive(r)
}
