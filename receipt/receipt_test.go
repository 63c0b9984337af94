package receipt_test

import (
	"fmt"
	"math"
	"math/big"
	"math/rand"
	"reflect"
	"slices"
	"strings"
	"sync"
	"testing"

	"egress/api"
	"egress/receipt"
)

const top = math.MaxUint64

// The names of the kinds of chapter 19, so that a wrong name in the program is seen.
var names = map[int]string{1: "deposit", 2: "exit", 3: "eject", 4: "slash", 5: "consolidate", 6: "partial", 7: "tick"}

// ints are small numbers, the limits of an int, numbers around those of kinds, codes and epochs, and some whose least bits look like one of these.
var ints = []int{
	math.MinInt, math.MinInt + 1, math.MinInt + 7, -1 << 32, -1<<32 + 7, -100, -10, -9, -8, -7, -3, -2, -1,
	0, 1, 2, 3, 4, 5, 6, 7, 8, 9, 10, 11, 13, 14, 99, 100, 255, 256, 256 + 7, 1<<16 + 7, 1<<32 - 1, 1 << 32, 1<<32 + 7,
	api.MaxEpoch - 1, api.MaxEpoch, api.MaxEpoch + 1, 1 << 62, math.MaxInt - 1, math.MaxInt,
}

// amounts are at the limits of words and of numbers of digits.
var amounts = []uint64{0, 1, 2, 9, 10, 11, 99, 100, 1<<32 - 1, 1 << 32, 1<<32 + 1, 1 << 60, 1<<63 - 1, 1 << 63, 1<<63 + 1, 1e19 - 1, 1e19, top - 1, top}

// text has all fields of a receipt; nil and empty slices have the same text.
func text(r api.Receipt) string { return fmt.Sprintf("%+v", r) }

// sample is a receipt of a tick with a different value in each field.
func sample() api.Receipt {
	return api.Receipt{
		Kind: 7, Code: 0, Index: 11, Block: 12, Epoch: 13, Deadline: 14, Visits: 15,
		Assigned: []api.Assignment{{Index: 21, Class: 0, Epoch: 23}, {Index: 24, Class: 1, Epoch: 26}},
		Payments: []api.Payment{{Index: 31, Amount: 32, Full: false}, {Index: 34, Amount: 35, Full: true}},
	}
}

// places calls visit with each place of a receipt's number, amount or bool.
func places(r *api.Receipt, visit func(place reflect.Value)) {
	var walk func(v reflect.Value)
	walk = func(v reflect.Value) {
		switch v.Kind() {
		case reflect.Struct:
			for i := range v.NumField() {
				walk(v.Field(i))
			}
		case reflect.Slice:
			for i := range v.Len() {
				walk(v.Index(i))
			}
		default:
			visit(v)
		}
	}
	walk(reflect.ValueOf(r).Elem())
}

// values calls visit after storing each sample value in a place, whose value is restored then.
func values(place reflect.Value, visit func()) {
	before := reflect.ValueOf(place.Interface())
	switch place.Kind() {
	case reflect.Int:
		for _, n := range ints {
			place.SetInt(int64(n))
			visit()
		}
	case reflect.Uint64:
		for _, a := range amounts {
			place.SetUint(a)
			visit()
		}
	case reflect.Bool:
		for _, full := range []bool{false, true} {
			place.SetBool(full)
			visit()
		}
	default:
		panic(place.Kind())
	}
	place.Set(before)
}

// variants are receipts that differ from a sample, and from a zero receipt, in one place or in the lengths of their lists.
func variants() []api.Receipt {
	var all []api.Receipt
	rejected := sample()
	rejected.Kind, rejected.Code = 2, 7
	for _, base := range []api.Receipt{sample(), rejected, {}} {
		places(&base, func(place reflect.Value) {
			values(place, func() { all = append(all, copied(base)) })
		})
		for n := range 3 {
			for m := range 3 {
				r := copied(base)
				r.Assigned, r.Payments = sample().Assigned[:n], sample().Payments[2-m:]
				all = append(all, r)
			}
		}
	}
	return all
}

// copied is a copy of a receipt, made field by field.
func copied(r api.Receipt) api.Receipt {
	return api.Receipt{
		Kind: r.Kind, Code: r.Code, Index: r.Index, Block: r.Block, Epoch: r.Epoch, Deadline: r.Deadline, Visits: r.Visits,
		Assigned: append([]api.Assignment{}, r.Assigned...),
		Payments: append([]api.Payment{}, r.Payments...),
	}
}

// format is the specification of Format.
func format(r api.Receipt) string {
	words := []string{"malformed"}
	if name, ok := names[r.Kind]; ok {
		words[0] = name
	}
	if r.Code != 0 {
		return fmt.Sprintf("%s error %d", words[0], int(r.Code))
	}
	if r.Kind != 7 {
		words = append(words, "ok", fmt.Sprintf("%d", r.Index))
		if r.Deadline != -1 {
			words = append(words, fmt.Sprintf("by %d", r.Deadline))
		}
		return strings.Join(words, " ")
	}
	words = append(words, fmt.Sprintf("block %d epoch %d visits %d", r.Block, r.Epoch, r.Visits))
	for _, a := range r.Assigned {
		pattern := "%dv@%d"
		if a.Class == 0 {
			pattern = "%df@%d"
		}
		words = append(words, fmt.Sprintf(pattern, a.Index, a.Epoch))
	}
	for _, p := range r.Payments {
		pattern := "%d+%d"
		if p.Full {
			pattern = "%d+%d!"
		}
		words = append(words, fmt.Sprintf(pattern, p.Index, p.Amount))
	}
	return strings.Join(words, " ")
}

// random returns a receipt whose fields are sample values, often those that matter most.
func random(source *rand.Rand) api.Receipt {
	number := func() int {
		if source.Intn(2) == 0 {
			return source.Intn(10) - 1
		}
		return ints[source.Intn(len(ints))]
	}
	r := api.Receipt{Kind: 7, Index: number(), Block: number(), Epoch: number(), Deadline: number(), Visits: number()}
	if source.Intn(2) == 0 {
		r.Kind = number()
	}
	if source.Intn(3) == 0 {
		r.Code = api.Errno(number())
	}
	for range source.Intn(5) {
		r.Assigned = append(r.Assigned, api.Assignment{Index: number(), Class: number(), Epoch: number()})
	}
	for range source.Intn(5) {
		amount := amounts[source.Intn(len(amounts))]
		if source.Intn(2) == 0 {
			amount = source.Uint64() >> source.Intn(64)
		}
		r.Payments = append(r.Payments, api.Payment{Index: number(), Amount: amount, Full: source.Intn(2) == 0})
	}
	return r
}

// paying is a receipt with payments of these amounts.
func paying(l ...uint64) api.Receipt {
	r := api.Receipt{Kind: api.Tick}
	for i, amount := range l {
		r.Payments = append(r.Payments, api.Payment{Index: i, Amount: amount})
	}
	return r
}

func expectSame(t *testing.T, a, b api.Receipt, want bool) {
	t.Helper()
	if got := receipt.Same(a, b); got != want {
		t.Errorf("Same(%+v, %+v) = %v; want %v", a, b, got, want)
	}
}

// expectSamePairs compares Same of all pairs with the texts of the receipts.
func expectSamePairs(t *testing.T, all []api.Receipt) {
	t.Helper()
	var texts []string
	for _, r := range all {
		texts = append(texts, text(r))
	}
	for i, a := range all {
		for j, b := range all {
			if got := receipt.Same(a, b); got != (texts[i] == texts[j]) {
				t.Errorf("Same(%s, %s) = %v", texts[i], texts[j], got)
			}
		}
	}
}

func expectReceipt(t *testing.T, got, want api.Receipt) {
	t.Helper()
	if text(got) != text(want) {
		t.Errorf("got the receipt %+v; want %+v", got, want)
	}
}

func expectFormat(t *testing.T, r api.Receipt, want string) {
	t.Helper()
	if got := receipt.Format(r); got != want {
		t.Errorf("Format(%+v) = %q; want %q", r, got, want)
	}
}

// expectPaid compares a call of Paid with the specification, as an integer of any size, and returns whether there is a sum.
func expectPaid(t *testing.T, l ...api.Receipt) bool {
	t.Helper()
	sum := new(big.Int)
	for _, r := range l {
		for _, p := range r.Payments {
			sum.Add(sum, new(big.Int).SetUint64(p.Amount))
		}
	}
	want := sum.IsUint64()
	if !want {
		sum.SetUint64(0)
	}
	if got, ok := receipt.Paid(l...); got != sum.Uint64() || ok != want {
		t.Errorf("Paid(%+v) = %d, %v; want %d, %v", l, got, ok, sum.Uint64(), want)
	}
	return want
}

// The tests change each place of a sample, so it has to have all of them.
func TestSampleHasAllPlaces(t *testing.T) {
	n := 0
	r := sample()
	places(&r, func(reflect.Value) { n++ })
	if n != 7+2*3+2*3 {
		t.Errorf("a sample has %d places", n)
	}
	if len(names) != api.Tick {
		t.Errorf("there are %d names", len(names))
	}
}

// P21.1: a receipt is the same as itself and as one with equal fields.
func TestSameEqual(t *testing.T) {
	for _, r := range variants() {
		expectSame(t, r, r, true)
		expectSame(t, r, copied(r), true)
		expectSame(t, copied(r), r, true)
	}
}

// P21.1: each field matters, also those of each assignment and of each payment, on both sides.
func TestSameChangedField(t *testing.T) {
	changed := sample()
	before := text(changed)
	places(&changed, func(place reflect.Value) {
		values(place, func() {
			want := text(changed) == before
			expectSame(t, sample(), changed, want)
			expectSame(t, changed, sample(), want)
		})
	})
}

// P21.1: all pairs of receipts that differ in few places.
func TestSamePairs(t *testing.T) {
	expectSamePairs(t, variants())
}

// P21.1: numbers in exchanged fields are not the same.
func TestSameExchangedFields(t *testing.T) {
	r := api.Receipt{Kind: 1, Code: 2, Index: 3, Block: 4, Epoch: 5, Deadline: 6, Visits: 7}
	places(&r, func(one reflect.Value) {
		places(&r, func(other reflect.Value) {
			before := copied(r)
			a, b := one.Int(), other.Int()
			one.SetInt(b)
			other.SetInt(a)
			expectSame(t, before, r, a == b)
			r = before
		})
	})
}

// P21.1: only the same elements in the same order are the same list.
func TestSameLists(t *testing.T) {
	assignments := []api.Assignment{{}, {Index: 1}, {Class: 1}, {Epoch: 1}}
	payments := []api.Payment{{}, {Index: 1}, {Amount: 1}, {Full: true}}
	var all []api.Receipt
	var extend func(r api.Receipt, n int)
	extend = func(r api.Receipt, n int) {
		all = append(all, r)
		if n == 0 {
			return
		}
		for i := range assignments {
			next := copied(r)
			next.Assigned = append(next.Assigned, assignments[i])
			extend(next, n-1)
			next = copied(r)
			next.Payments = append(next.Payments, payments[i])
			extend(next, n-1)
		}
	}
	extend(api.Receipt{}, 3)
	expectSamePairs(t, all)
}

// Rule 4: it makes no difference whether an empty slice is nil.
func TestSameEmptyLists(t *testing.T) {
	for _, a := range [][]api.Assignment{nil, {}, sample().Assigned[:0]} {
		for _, p := range [][]api.Payment{nil, {}, sample().Payments[:0]} {
			r := api.Receipt{Kind: 3, Assigned: a, Payments: p}
			expectSame(t, r, api.Receipt{Kind: 3}, true)
			expectSame(t, api.Receipt{Kind: 3}, r, true)
			expectSame(t, r, sample(), false)
			expectSame(t, sample(), r, false)
			expectReceipt(t, receipt.Clone(r), api.Receipt{Kind: 3})
			expectFormat(t, api.Receipt{Kind: 7, Assigned: a, Payments: p}, "tick block 0 epoch 0 visits 0")
		}
	}
}

// Rule 4: elements beyond the length of a list do not matter, and they are not written.
func TestBeyondLength(t *testing.T) {
	short, long := sample(), sample()
	short.Assigned, short.Payments = short.Assigned[:1], short.Payments[:1]
	exact := copied(short)
	expectSame(t, short, exact, true)
	expectSame(t, exact, short, true)
	expectSame(t, short, long, false)
	expectSame(t, long, short, false)
	expectFormat(t, short, format(exact))
	if sum, ok := receipt.Paid(short); sum != 32 || !ok {
		t.Errorf("Paid = %d, %v; want 32", sum, ok)
	}
	clone := receipt.Clone(short)
	clone.Assigned = append(clone.Assigned, api.Assignment{Index: -5})
	clone.Payments = append(clone.Payments, api.Payment{Index: -5})
	short.Assigned, short.Payments = short.Assigned[:2], short.Payments[:2]
	expectReceipt(t, short, long)
}

// P21.1: long lists are compared to their end, and copied to their end.
func TestLongLists(t *testing.T) {
	const n = 1 << 16
	r := api.Receipt{Kind: 7}
	for i := range n {
		r.Assigned = append(r.Assigned, api.Assignment{Index: i, Class: i % 2, Epoch: i + 1})
		r.Payments = append(r.Payments, api.Payment{Index: i, Amount: uint64(i), Full: i%3 == 0})
	}
	before := text(r)
	clone := receipt.Clone(r)
	expectReceipt(t, clone, r)
	if !receipt.Same(r, clone) {
		t.Error("a long receipt is not the same as its copy")
	}
	for _, at := range []int{0, 1, n / 2, n - 2, n - 1} {
		clone.Assigned[at].Epoch++
		if receipt.Same(r, clone) {
			t.Errorf("the assignment %d does not matter", at)
		}
		clone.Assigned[at].Epoch--
		clone.Payments[at].Amount++
		if receipt.Same(r, clone) {
			t.Errorf("the payment %d does not matter", at)
		}
		clone.Payments[at].Amount--
	}
	if text(r) != before {
		t.Error("changes of a copy changed a long receipt")
	}
	if line := receipt.Format(r); line != format(r) {
		t.Errorf("the line of a long receipt has %d bytes; want %d", len(line), len(format(r)))
	}
	if sum, ok := receipt.Paid(r, clone); sum != n*(n-1) || !ok {
		t.Errorf("Paid = %d, %v; want %d", sum, ok, n*(n-1))
	}
}

// P21.1: a copy has all fields of the receipt.
func TestClone(t *testing.T) {
	for _, r := range variants() {
		before := text(r)
		clone := receipt.Clone(r)
		expectReceipt(t, clone, copied(r))
		expectSame(t, clone, r, true)
		if text(r) != before {
			t.Errorf("Clone changed %s to %+v", before, r)
		}
	}
}

// P21.1: a change of a receipt does not change its copies, nor one of a copy the receipt or another copy.
func TestCloneSharesNoMemory(t *testing.T) {
	source := sample()
	all := []api.Receipt{source, receipt.Clone(source), receipt.Clone(source)}
	all = append(all, receipt.Clone(all[1]))
	for i := range all {
		places(&all[i], func(place reflect.Value) {
			values(place, func() {
				for j, other := range all {
					if i != j && text(other) != text(sample()) {
						t.Fatalf("a change of receipt %d changed receipt %d to %+v", i, j, other)
					}
				}
			})
		})
	}
}

// P21.1: not even the memory of single elements or of an appended one is shared.
func TestCloneAppend(t *testing.T) {
	source := sample()
	source.Assigned = slices.Grow(source.Assigned, 10)
	source.Payments = slices.Grow(source.Payments, 10)
	one, other := receipt.Clone(source), receipt.Clone(source)
	for i, r := range []*api.Receipt{&source, &one, &other} {
		r.Assigned = append(r.Assigned, api.Assignment{Index: i})
		r.Payments = append(r.Payments, api.Payment{Index: i})
	}
	for i, r := range []api.Receipt{source, one, other} {
		if r.Assigned[2].Index != i || r.Payments[2].Index != i {
			t.Errorf("an element that was appended to receipt %d is %+v, %+v", i, r.Assigned[2], r.Payments[2])
		}
	}
}

// P21.2: the chapter's fields, for all kinds and codes.
func TestReject(t *testing.T) {
	for _, kind := range ints {
		for _, code := range ints {
			o := api.Op{Kind: kind, Index: 101, Target: 102, Amount: 103}
			want := api.Receipt{Kind: kind, Code: api.Errno(code), Index: -1, Block: 104, Epoch: 105, Deadline: -1}
			expectReceipt(t, receipt.Reject(o, api.Errno(code), 104, 105), want)
		}
	}
}

// P21.2: all blocks and epochs are permitted.
func TestRejectBlockAndEpoch(t *testing.T) {
	for _, block := range ints {
		for _, epoch := range ints {
			want := api.Receipt{Kind: 2, Code: 8, Index: -1, Block: block, Epoch: epoch, Deadline: -1}
			expectReceipt(t, receipt.Reject(api.Op{Kind: api.Exit, Index: 5}, api.ErrStatus, block, epoch), want)
		}
	}
}

// P21.2: the chapter's fields, for all kinds.
func TestAccept(t *testing.T) {
	for _, kind := range ints {
		o := api.Op{Kind: kind, Index: 101, Target: 102, Amount: 103}
		want := api.Receipt{Kind: kind, Code: 0, Index: 104, Deadline: 105, Block: 106, Epoch: 107}
		expectReceipt(t, receipt.Accept(o, 104, 105, 106, 107), want)
	}
}

// P21.2: all indices, deadlines, blocks and epochs are permitted.
func TestAcceptNumbers(t *testing.T) {
	o := api.Op{Kind: api.Eject, Index: 5}
	for _, a := range ints {
		for _, b := range ints {
			expectReceipt(t, receipt.Accept(o, a, b, 3, 4), api.Receipt{Kind: 3, Index: a, Deadline: b, Block: 3, Epoch: 4})
			expectReceipt(t, receipt.Accept(o, 1, 2, a, b), api.Receipt{Kind: 3, Index: 1, Deadline: 2, Block: a, Epoch: b})
		}
	}
}

// P21.2: a receipt does not depend on the operands of its operation.
func TestOperandsDoNotMatter(t *testing.T) {
	reject, accept := receipt.Reject(api.Op{Kind: 5}, 8, 1, 2), receipt.Accept(api.Op{Kind: 5}, 1, 2, 3, 4)
	for _, n := range ints {
		for _, amount := range amounts {
			for _, o := range []api.Op{{Kind: 5, Index: n, Amount: amount}, {Kind: 5, Target: n, Amount: amount}} {
				expectReceipt(t, receipt.Reject(o, 8, 1, 2), reject)
				expectReceipt(t, receipt.Accept(o, 1, 2, 3, 4), accept)
			}
		}
	}
}

// P21.3: without payments, the sum is 0.
func TestPaidNothing(t *testing.T) {
	for _, l := range [][]api.Receipt{nil, {}, {{}}, {{}, {}}, {paying()}, {paying(0)}, {paying(0, 0), paying(), paying(0)}} {
		if sum, ok := receipt.Paid(l...); sum != 0 || !ok {
			t.Errorf("Paid(%+v) = %d, %v; want 0, true", l, sum, ok)
		}
	}
}

// P21.3: all payments of all receipts count, full ones or not.
func TestPaid(t *testing.T) {
	for _, each := range []struct {
		l    []api.Receipt
		want uint64
	}{
		{[]api.Receipt{paying(5)}, 5},
		{[]api.Receipt{paying(5, 7)}, 12},
		{[]api.Receipt{paying(5), paying(7)}, 12},
		{[]api.Receipt{paying(1, 20), paying(), paying(300, 4000, 50000)}, 54321},
		{[]api.Receipt{sample()}, 67},
		{[]api.Receipt{sample(), paying(3), sample()}, 137},
	} {
		if sum, ok := receipt.Paid(each.l...); sum != each.want || !ok {
			t.Errorf("Paid(%+v) = %d, %v; want %d", each.l, sum, ok, each.want)
		}
	}
}

// P21.3: whatever the other fields of a receipt and of a payment are, also those of a rejected operation.
func TestPaidOtherFields(t *testing.T) {
	r := sample()
	places(&r, func(place reflect.Value) {
		if place.Kind() == reflect.Uint64 {
			return
		}
		values(place, func() {
			if sum, ok := receipt.Paid(r); sum != 67 || !ok {
				t.Errorf("Paid(%+v) = %d, %v; want 67", r, sum, ok)
			}
		})
	})
}

// P21.3: both sides of the greatest sum.
func TestPaidLimit(t *testing.T) {
	for _, a := range amounts {
		rest := uint64(top) - a
		for _, l := range [][]api.Receipt{
			{paying(a, rest)}, {paying(a), paying(rest)}, {paying(rest, 0), paying(0, a)}, {paying(a/2, a-a/2), paying(), paying(rest)},
		} {
			if sum, ok := receipt.Paid(l...); sum != top || !ok {
				t.Errorf("Paid(%+v) = %d, %v; want 2^64 - 1, true", l, sum, ok)
			}
			for _, more := range [][]api.Receipt{
				append(slices.Clone(l), paying(1)), append([]api.Receipt{paying(1)}, l...), append(slices.Clone(l), paying(1, 0), paying()), append(slices.Clone(l), paying(top)),
			} {
				if sum, ok := receipt.Paid(more...); sum != 0 || ok {
					t.Errorf("Paid(%+v) = %d, %v; want 0, false", more, sum, ok)
				}
			}
		}
	}
}

// P21.3: a sum that is too large stays so, also if it would be small modulo 2^64 after further payments.
func TestPaidStaysTooLarge(t *testing.T) {
	for _, l := range [][]uint64{{top, 1}, {top, 1, 0}, {top, 1, 5}, {top, top, 2}, {1 << 63, 1 << 63}, {1 << 63, 1 << 63, 7, 7}, {1, top}, {0, top, 0, 1, 0}, {top, top, top, top, 4, 1}} {
		single := []api.Receipt{}
		for _, amount := range l {
			single = append(single, paying(amount))
		}
		if sum, ok := receipt.Paid(paying(l...)); sum != 0 || ok {
			t.Errorf("Paid of %d = %d, %v; want 0, false", l, sum, ok)
		}
		if sum, ok := receipt.Paid(single...); sum != 0 || ok {
			t.Errorf("Paid of %d in several receipts = %d, %v; want 0, false", l, sum, ok)
		}
	}
}

// P21.3: all lists of up to 4 sample amounts, in one receipt and in several ones.
func TestPaidAll(t *testing.T) {
	some := []uint64{0, 1, 7, 1<<63 - 1, 1 << 63, top - 1, top}
	var extend func(l []uint64)
	extend = func(l []uint64) {
		for cut := range len(l) + 1 {
			expectPaid(t, paying(l[:cut]...), paying(l[cut:]...))
		}
		if len(l) == 4 {
			return
		}
		for _, amount := range some {
			extend(append(slices.Clone(l), amount))
		}
	}
	extend(nil)
}

// P21.3: random receipts, of which some have a sum and others have none.
func TestPaidRandom(t *testing.T) {
	source := rand.New(rand.NewSource(213))
	count := map[bool]int{}
	for range 20000 {
		var l []api.Receipt
		for range source.Intn(6) {
			l = append(l, random(source))
		}
		count[expectPaid(t, l...)]++
	}
	if count[false] < 1000 || count[true] < 1000 {
		t.Errorf("%d receipts have a sum, %d have none", count[true], count[false])
	}
}

// P21.4: the example of the chapter, and those of chapters 25 and 26.
func TestExamples(t *testing.T) {
	expectFormat(t, api.Receipt{Kind: api.Exit, Index: 3, Deadline: 14}, "exit ok 3 by 14")
	expectFormat(t, api.Receipt{Kind: api.Tick, Index: -1, Block: 1, Deadline: -1}, "tick block 1 epoch 0 visits 0")
	expectFormat(t, api.Receipt{Kind: api.Exit, Code: api.ErrIndex, Index: -1, Deadline: -1}, "exit error 7")
	expectFormat(t, api.Receipt{Kind: api.Deposit, Index: 0, Deadline: -1}, "deposit ok 0")
	expectFormat(t, api.Receipt{Kind: api.Tick, Index: -1, Block: 4, Epoch: 1, Deadline: -1, Visits: 1}, "tick block 4 epoch 1 visits 1")
}

// P21.4: the lines of receipts of each kind.
func TestFormatKinds(t *testing.T) {
	for kind, name := range names {
		o := api.Op{Kind: kind, Index: 9}
		expectFormat(t, receipt.Reject(o, api.ErrIndex, 5, 6), name+" error 7")
		if kind != api.Tick {
			expectFormat(t, receipt.Accept(o, 12, api.NoEpoch, 5, 6), name+" ok 12")
			expectFormat(t, receipt.Accept(o, 12, 34, 5, 6), name+" ok 12 by 34")
		}
	}
	expectFormat(t, receipt.Accept(api.Op{Kind: api.Tick}, 12, 34, 5, 6), "tick block 5 epoch 6 visits 0")
	for _, kind := range ints {
		if _, ok := names[kind]; !ok {
			o := api.Op{Kind: kind, Index: 9}
			expectFormat(t, receipt.Reject(o, api.ErrOp, 5, 6), "malformed error 11")
			expectFormat(t, receipt.Accept(o, 12, api.NoEpoch, 5, 6), "malformed ok 12")
			expectFormat(t, receipt.Accept(o, 12, 34, 5, 6), "malformed ok 12 by 34")
		}
	}
	expectFormat(t, api.Receipt{}, "malformed ok 0 by 0")
}

// P21.4: assignments, then payments, each in order.
func TestFormatTick(t *testing.T) {
	expectFormat(t, sample(), "tick block 12 epoch 13 visits 15 21f@23 24v@26 31+32 34+35!")
	r := sample()
	r.Payments = nil
	expectFormat(t, r, "tick block 12 epoch 13 visits 15 21f@23 24v@26")
	slices.Reverse(r.Assigned)
	expectFormat(t, r, "tick block 12 epoch 13 visits 15 24v@26 21f@23")
	r = sample()
	r.Assigned = nil
	expectFormat(t, r, "tick block 12 epoch 13 visits 15 31+32 34+35!")
	slices.Reverse(r.Payments)
	expectFormat(t, r, "tick block 12 epoch 13 visits 15 34+35! 31+32")
	r.Payments = append(r.Payments, r.Payments...)
	expectFormat(t, r, "tick block 12 epoch 13 visits 15 34+35! 31+32 34+35! 31+32")
	r = sample()
	r.Payments[0].Full, r.Payments[1].Full = true, false
	expectFormat(t, r, "tick block 12 epoch 13 visits 15 21f@23 24v@26 31+32! 34+35")
}

// P21.4: only the class Forced has the letter f.
func TestFormatClasses(t *testing.T) {
	for _, class := range ints {
		letter := "v"
		if class == 0 {
			letter = "f"
		}
		r := api.Receipt{Kind: 7, Assigned: []api.Assignment{{Index: 3, Class: class, Epoch: 8}}}
		expectFormat(t, r, "tick block 0 epoch 0 visits 0 3"+letter+"@8")
	}
}

// P21.4: only the deadline NoEpoch is left out.
func TestFormatDeadlines(t *testing.T) {
	for _, deadline := range ints {
		want := fmt.Sprintf("eject ok 5 by %d", deadline)
		if deadline == -1 {
			want = "eject ok 5"
		}
		expectFormat(t, api.Receipt{Kind: 3, Index: 5, Deadline: deadline}, want)
	}
}

// P21.4: each code but OK is an error, with a minus sign if it is negative; the other fields do not matter then.
func TestFormatErrors(t *testing.T) {
	for kind, name := range names {
		for _, code := range ints {
			r := sample()
			r.Kind, r.Code = kind, api.Errno(code)
			if code != 0 {
				expectFormat(t, r, fmt.Sprintf("%s error %d", name, code))
			}
		}
	}
	rejected := sample()
	rejected.Code = api.ErrNil
	places(&rejected, func(place reflect.Value) {
		values(place, func() {
			if rejected.Kind == api.Tick && rejected.Code == api.ErrNil {
				expectFormat(t, rejected, "tick error 1")
			}
		})
	})
}

// P21.4: numbers are in decimal without leading zeros, with a minus sign if they are negative.
func TestFormatNumbers(t *testing.T) {
	for n, want := range map[int]string{
		0: "0", 7: "7", 10: "10", 1000: "1000", 65536: "65536", math.MaxInt: "9223372036854775807",
		-1: "-1", -10: "-10", math.MinInt + 1: "-9223372036854775807", math.MinInt: "-9223372036854775808",
	} {
		expectFormat(t, api.Receipt{Kind: 7, Block: n, Epoch: 1, Visits: 2}, "tick block "+want+" epoch 1 visits 2")
		expectFormat(t, api.Receipt{Kind: 7, Block: 1, Epoch: n, Visits: 2}, "tick block 1 epoch "+want+" visits 2")
		expectFormat(t, api.Receipt{Kind: 7, Block: 1, Epoch: 2, Visits: n}, "tick block 1 epoch 2 visits "+want)
		expectFormat(t, api.Receipt{Kind: 1, Index: n, Deadline: -1}, "deposit ok "+want)
		expectFormat(t, api.Receipt{Kind: 7, Assigned: []api.Assignment{{Index: n, Class: 1, Epoch: 5}}}, "tick block 0 epoch 0 visits 0 "+want+"v@5")
		expectFormat(t, api.Receipt{Kind: 7, Assigned: []api.Assignment{{Index: 5, Epoch: n}}}, "tick block 0 epoch 0 visits 0 5f@"+want)
		expectFormat(t, api.Receipt{Kind: 7, Payments: []api.Payment{{Index: n, Amount: 5}}}, "tick block 0 epoch 0 visits 0 "+want+"+5")
	}
	for amount, want := range map[uint64]string{0: "0", 9: "9", 100: "100", 1 << 63: "9223372036854775808", top: "18446744073709551615"} {
		expectFormat(t, api.Receipt{Kind: 7, Payments: []api.Payment{{Index: 1, Amount: amount}}}, "tick block 0 epoch 0 visits 0 1+"+want)
		expectFormat(t, api.Receipt{Kind: 7, Payments: []api.Payment{{Index: 1, Amount: amount, Full: true}}}, "tick block 0 epoch 0 visits 0 1+"+want+"!")
	}
}

// P21.4: receipts with each sample value in each place, and random ones; the receipts are not modified.
func TestFormatModel(t *testing.T) {
	source := rand.New(rand.NewSource(214))
	all := variants()
	for range 20000 {
		all = append(all, random(source))
	}
	for _, r := range all {
		before := text(r)
		expectFormat(t, r, format(r))
		if text(r) != before {
			t.Errorf("Format changed %s to %+v", before, r)
		}
	}
}

// Rule 6: the functions may be called concurrently, also with the same receipt.
func TestConcurrentCalls(t *testing.T) {
	var all sync.WaitGroup
	r := sample()
	for n := range 8 {
		all.Go(func() {
			for range 200 {
				clone := receipt.Clone(r)
				expectSame(t, r, clone, true)
				clone.Assigned[0].Index, clone.Payments[0].Index = n, n
				expectSame(t, r, clone, false)
				expectFormat(t, r, "tick block 12 epoch 13 visits 15 21f@23 24v@26 31+32 34+35!")
				expectPaid(t, r, clone)
			}
		})
	}
	all.Wait()
}
