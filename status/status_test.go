package status_test

import (
	"math"
	"slices"
	"strings"
	"sync"
	"testing"

	"egress/api"
	"egress/status"
)

const (
	statuses = 7
	events   = 7
)

// The tables of the chapter, in words, so that a wrong number in the package is seen.
const (
	statusNames = "pending active exiting unbonding withdrawable paid merged"
	eventNames  = "Activate Exit Leave Ripen Pay Merge Slash"
	changes     = `Activate pending active
		Exit active exiting
		Leave exiting unbonding
		Ripen unbonding withdrawable
		Pay withdrawable paid
		Merge active merged
		Slash active exiting
		Slash exiting exiting
		Slash unbonding unbonding
		Slash withdrawable unbonding`
)

// place is the number of a word in a list, from 1, or 0 if it is not there.
func place(list, word string) int {
	return slices.Index(strings.Fields(list), word) + 1
}

// next is the specification of Next.
func next(from, event int) (int, bool) {
	for _, line := range strings.Split(changes, "\n") {
		words := strings.Fields(line)
		if place(eventNames, words[0]) == event && place(statusNames, words[1]) == from {
			return place(statusNames, words[2]), true
		}
	}
	return 0, false
}

// run is the specification of Run.
func run(from int, l []int) (int, int) {
	for i, event := range l {
		to, ok := next(from, event)
		if !ok {
			return from, i
		}
		from = to
	}
	return from, len(l)
}

// numbers are all statuses and events, and numbers that are neither of them; among these are some whose least bits look like one.
func numbers() []int {
	all := []int{math.MinInt, math.MinInt + 1, math.MinInt32, math.MaxInt32, math.MaxInt - 1, math.MaxInt, 1<<32 + 1, 1<<32 + 7, 1<<8 + 1, 1<<16 + 2, 1<<63 - 1<<32 + 3, -1<<63 + 2}
	for n := -20; n <= 100; n++ {
		all = append(all, n)
	}
	return all
}

// sequences calls visit with all sequences of some events up to a length. The sequence is only valid during the call.
func sequences(events []int, length int, visit func(l []int)) {
	l := make([]int, 0, length)
	var extend func()
	extend = func() {
		visit(l)
		if len(l) == length {
			return
		}
		for _, event := range events {
			l = append(l, event)
			extend()
			l = l[:len(l)-1]
		}
	}
	extend()
}

func expectNext(t *testing.T, from, event, want int, applies bool) {
	t.Helper()
	if got, ok := status.Next(from, event); got != want || ok != applies {
		t.Errorf("Next(%d, %d) = %d, %v; want %d, %v", from, event, got, ok, want, applies)
	}
}

func expectRun(t *testing.T, from int, l []int, want, applied int) {
	t.Helper()
	if got, n := status.Run(from, l...); got != want || n != applied {
		t.Errorf("Run(%d, %v) = %d, %d; want %d, %d", from, l, got, n, want, applied)
	}
}

// P5.1: the numbers of the events are those of the chapter, and may be used as any integer type.
func TestEvents(t *testing.T) {
	const asByte byte = status.Slash
	const asAmount uint64 = status.Activate
	for name, event := range map[string]int{
		"Activate": status.Activate, "Exit": status.Exit, "Leave": status.Leave, "Ripen": status.Ripen,
		"Pay": status.Pay, "Merge": status.Merge, "Slash": status.Slash,
	} {
		if want := place(eventNames, name); event != want {
			t.Errorf("%s = %d; want %d", name, event, want)
		}
	}
	if asByte != 7 || asAmount != 1 {
		t.Error(asByte, asAmount)
	}
}

// P5.1: the rows of the table, with the numbers that package api gives to the statuses.
func TestNextRows(t *testing.T) {
	for _, x := range []struct{ event, from, to int }{
		{status.Activate, api.Pending, api.Active},
		{status.Exit, api.Active, api.Exiting},
		{status.Leave, api.Exiting, api.Unbonding},
		{status.Ripen, api.Unbonding, api.Withdrawable},
		{status.Pay, api.Withdrawable, api.Paid},
		{status.Merge, api.Active, api.Merged},
		{status.Slash, api.Active, api.Exiting},
		{status.Slash, api.Exiting, api.Exiting},
		{status.Slash, api.Unbonding, api.Unbonding},
		{status.Slash, api.Withdrawable, api.Unbonding},
	} {
		expectNext(t, x.from, x.event, x.to, true)
	}
}

// P5.1: each pair of a status and an event, and numbers that are no status or no event.
func TestNextPairs(t *testing.T) {
	applying := 0
	for _, from := range numbers() {
		for _, event := range numbers() {
			to, ok := 0, false
			if from >= 1 && from <= statuses && event >= 1 && event <= events {
				to, ok = next(from, event)
			}
			expectNext(t, from, event, to, ok)
			if ok {
				applying++
			}
		}
	}
	if applying != 10 {
		t.Errorf("%d pairs apply; want 10", applying)
	}
}

// P5.1: an event does not apply to the status that has its number, unless the table has this pair.
func TestNextKeepsStatusAndEventApart(t *testing.T) {
	expectNext(t, api.Active, status.Activate, 0, false)
	expectNext(t, api.Pending, status.Exit, 0, false)
	expectNext(t, api.Exiting, status.Exit, 0, false)
	expectNext(t, api.Unbonding, status.Leave, 0, false)
	expectNext(t, api.Withdrawable, status.Ripen, 0, false)
	expectNext(t, api.Pending, status.Slash, 0, false)
	expectNext(t, api.Exiting, status.Merge, 0, false)
}

// P5.2: the example of the chapter, and sequences that end in different ways.
func TestRunExamples(t *testing.T) {
	expectRun(t, api.Pending, []int{status.Activate, status.Exit, status.Leave}, api.Unbonding, 3)
	expectRun(t, api.Pending, []int{status.Activate, status.Exit, status.Leave, status.Ripen, status.Pay}, api.Paid, 5)
	expectRun(t, api.Pending, []int{status.Activate, status.Merge}, api.Merged, 2)
	expectRun(t, api.Active, []int{status.Slash, status.Leave, status.Ripen, status.Slash, status.Ripen, status.Pay}, api.Paid, 6)
	// The first event does not apply.
	expectRun(t, api.Pending, []int{status.Exit, status.Activate}, api.Pending, 0)
	// What follows an event that does not apply is not tried, though it would apply.
	expectRun(t, api.Pending, []int{status.Activate, status.Pay, status.Exit}, api.Active, 1)
	// The last event does not apply.
	expectRun(t, api.Active, []int{status.Exit, status.Leave, status.Exit}, api.Unbonding, 2)
	// The same event a second time.
	expectRun(t, api.Pending, []int{status.Activate, status.Activate}, api.Active, 1)
	// Events that do not exist.
	expectRun(t, api.Active, []int{0}, api.Active, 0)
	expectRun(t, api.Active, []int{status.Exit, 8, status.Leave}, api.Exiting, 1)
	expectRun(t, api.Active, []int{status.Exit, -1, math.MinInt}, api.Exiting, 1)
	expectRun(t, api.Withdrawable, []int{status.Pay, status.Pay}, api.Paid, 1)
}

// P5.2: without events, the status is returned, whatever it is; an unknown status stays as it is.
func TestRunWithoutChange(t *testing.T) {
	for _, from := range numbers() {
		expectRun(t, from, nil, from, 0)
		expectRun(t, from, []int{}, from, 0)
		if from < 1 || from > statuses {
			for event := -1; event <= events+1; event++ {
				expectRun(t, from, []int{event, status.Activate}, from, 0)
			}
		}
	}
}

// P5.2: all short sequences, with numbers that are no events, from each status and from numbers that are none.
func TestRunSequences(t *testing.T) {
	for from := -1; from <= statuses+1; from++ {
		sequences([]int{0, 1, 2, 3, 4, 5, 6, 7, 8}, 4, func(l []int) {
			want, applied := run(from, l)
			expectRun(t, from, l, want, applied)
		})
	}
}

// P5.2: a long sequence is applied to its end, or up to an event in it.
func TestRunLong(t *testing.T) {
	l := []int{status.Activate, status.Exit}
	for range 1 << 16 {
		l = append(l, status.Slash)
	}
	l = append(l, status.Leave)
	for range 1 << 16 {
		l = append(l, status.Ripen, status.Slash)
	}
	l = append(l, status.Ripen, status.Pay)
	expectRun(t, api.Pending, l, api.Paid, len(l))
	l[1<<15] = status.Activate
	expectRun(t, api.Pending, l, api.Exiting, 1<<15)
}

// P5.2: neither the events nor what lies behind them in memory are modified.
func TestRunKeepsArguments(t *testing.T) {
	memory := []int{status.Activate, status.Exit, status.Leave, status.Ripen, status.Pay}
	expectRun(t, api.Pending, memory[:2], api.Exiting, 2)
	expectRun(t, api.Pending, memory[1:], api.Pending, 0)
	if !slices.Equal(memory, []int{status.Activate, status.Exit, status.Leave, status.Ripen, status.Pay}) {
		t.Error(memory)
	}
}

// P5.3: all statuses, and numbers that are none.
func TestLiveAndFinal(t *testing.T) {
	for _, n := range numbers() {
		if got, want := status.Live(n), n == api.Active || n == api.Exiting; got != want {
			t.Errorf("Live(%d) = %v", n, got)
		}
		if got, want := status.Final(n), n == api.Paid || n == api.Merged; got != want {
			t.Errorf("Final(%d) = %v", n, got)
		}
	}
}

// P5.4: each status has its name.
func TestNames(t *testing.T) {
	for n, name := range map[int]string{
		api.Pending: "pending", api.Active: "active", api.Exiting: "exiting", api.Unbonding: "unbonding",
		api.Withdrawable: "withdrawable", api.Paid: "paid", api.Merged: "merged",
	} {
		if got := status.Name(n); got != name {
			t.Errorf("Name(%d) = %q; want %q", n, got, name)
		}
		if got, ok := status.Parse(name); got != n || !ok {
			t.Errorf("Parse(%q) = %d, %v; want %d", name, got, ok, n)
		}
	}
}

// P5.4: numbers that are no status have no name.
func TestNoName(t *testing.T) {
	for _, n := range numbers() {
		got := status.Name(n)
		if n >= 1 && n <= statuses {
			if back, ok := status.Parse(got); back != n || !ok {
				t.Errorf("Parse(Name(%d)) = %d, %v", n, back, ok)
			}
		} else if got != "" {
			t.Errorf("Name(%d) = %q", n, got)
		}
	}
}

// P5.4: strings that are no name: among them each name with a part missing, added or written otherwise.
func TestParseInvalid(t *testing.T) {
	invalid := []string{"", " ", "\x00", "0", "1", "7", "none", "slashed", "exit", "leave", "Slash", "activate", "ripen", "pay", "merge", "paid merged", statusNames, "p\u00e4id", "\xff", "act\u0131ve", strings.Repeat("paid", 1<<16)}
	for _, name := range strings.Fields(statusNames) {
		invalid = append(invalid, name+" ", " "+name, name+"\n", name+"\x00", name+name, name+"s", strings.ToUpper(name), strings.ToUpper(name[:1])+name[1:])
		for i := range len(name) {
			invalid = append(invalid, name[:i], name[:i]+name[i+1:], name[:i]+"\x00"+name[i+1:], name[:i]+"z"+name[i+1:])
		}
	}
	for _, name := range invalid {
		if got, ok := status.Parse(name); got != 0 || ok {
			t.Errorf("Parse(%q) = %d, %v; want 0, false", name, got, ok)
		}
	}
}

// P5.5: no event applies to a final status, and Paid is only reached from Withdrawable.
func TestFinalStatuses(t *testing.T) {
	for _, from := range numbers() {
		for _, event := range numbers() {
			to, ok := status.Next(from, event)
			if ok && status.Final(from) {
				t.Errorf("event %d applies to the final status %d", event, from)
			}
			if ok && to == api.Paid && from != api.Withdrawable {
				t.Errorf("event %d changes status %d to Paid", event, from)
			}
			if ok && (to < 1 || to > statuses) {
				t.Errorf("Next(%d, %d) is no status: %d", from, event, to)
			}
		}
	}
}

// containsInOrder reports whether some events occur in this order, with any others in between.
func containsInOrder(l []int, some ...int) bool {
	for _, event := range l {
		if len(some) > 0 && event == some[0] {
			some = some[1:]
		}
	}
	return len(some) == 0
}

// P5.5: all sequences of up to 12 events from Pending to Paid. A sequence is not continued behind an event that does not apply.
func TestPathsToPaid(t *testing.T) {
	const longest = 12
	paths := 0
	var follow func(from int, l []int)
	follow = func(from int, l []int) {
		if from == api.Paid {
			paths++
			if !containsInOrder(l, status.Activate, status.Leave, status.Ripen, status.Pay) {
				t.Errorf("%v leads from Pending to Paid", l)
			}
		}
		if len(l) == longest {
			return
		}
		for event := 1; event <= events; event++ {
			if to, ok := status.Next(from, event); ok {
				follow(to, append(slices.Clone(l), event))
			}
		}
	}
	follow(api.Pending, nil)
	if paths == 0 {
		t.Error("no sequence leads from Pending to Paid")
	}
}

// Rule 6: the functions may be called concurrently.
func TestConcurrentCalls(t *testing.T) {
	var all sync.WaitGroup
	for range 8 {
		all.Go(func() {
			for range 200 {
				expectNext(t, api.Withdrawable, status.Slash, api.Unbonding, true)
				expectRun(t, api.Pending, []int{status.Activate, status.Slash, status.Pay}, api.Exiting, 2)
				if n, ok := status.Parse(status.Name(api.Merged)); n != api.Merged || !ok {
					t.Error(n, ok)
				}
			}
		})
	}
	all.Wait()
}
