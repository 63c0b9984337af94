package replay_test

import (
	"math"
	"math/rand"
	"slices"
	"strings"
	"testing"

	"egress/api"
	"egress/config"
	"egress/engine"
	"egress/op"
	"egress/partial"
	"egress/receipt"
	"egress/replay"
	"egress/script"
)

func copies(l []api.Receipt) []api.Receipt {
	copied := make([]api.Receipt, len(l))
	for i, r := range l {
		copied[i] = receipt.Clone(r)
	}
	return copied
}

// randomConfig is a valid configuration; most fields are those of the default one.
func randomConfig(source *rand.Rand) api.Config {
	c := config.Default()
	for range source.Intn(6) {
		field, value := 1+source.Intn(20), uint64(source.Intn(9))
		if field >= 3 && field <= 10 {
			value *= 16
		}
		if changed, ok := config.Set(c, field, value); ok && config.Valid(changed) {
			c = changed
		}
	}
	if source.Intn(3) == 0 {
		c.EpochLen, c.MinChurn = 1, 200
	}
	return c
}

// randomScript has valid operations that are accepted often enough, and some bytes in between that can be anything.
func randomScript(source *rand.Rand) []byte {
	var b []byte
	index := func() byte { return byte(source.Intn(10)) }
	for range source.Intn(250) {
		switch kind := source.Intn(24); kind {
		case 0, 1, 2:
			b = append(b, deposit(byte(14+source.Intn(54)))...)
		case 3, 4:
			b = append(b, exit(index())...)
		case 5:
			b = append(b, eject(index())...)
		case 6:
			b = append(b, slash(index())...)
		case 7, 8:
			b = append(b, consolidate(index(), index())...)
		case 9, 10:
			b = append(b, part(index(), byte(source.Intn(40)))...)
		case 11:
			b = append(b, byte(source.Intn(256)))
		default:
			b = append(b, ticks(1+source.Intn(4))...)
		}
	}
	return b
}

// replayed is the specification of Run: it reads one operation after the other, and keeps the snapshots before and after each of them.
func replayed(t *testing.T, c api.Config, b []byte) ([]api.Op, []api.Receipt, []engine.Snapshot) {
	t.Helper()
	e, code := engine.New(c)
	if code != api.OK {
		t.Fatal(code)
	}
	var l []api.Op
	var receipts []api.Receipt
	snapshots := []engine.Snapshot{e.Snapshot()}
	for o, at, ok := op.Decode(b, 0); ok; o, at, ok = op.Decode(b, at) {
		l = append(l, o)
		receipts = append(receipts, e.Apply(o))
		snapshots = append(snapshots, e.Snapshot())
	}
	return l, receipts, snapshots
}

// P3, P25.1 to P25.4, P25.6 and P25.7 for random scripts.
func TestRandom(t *testing.T) {
	source := rand.New(rand.NewSource(25))
	accepted := map[int]int{}
	for n := range 600 {
		c, b := randomConfig(source), randomScript(source)
		given := slices.Clone(b)
		l, receipts, snapshots := replayed(t, c, b)
		r := run(t, c, b)
		expectReceipts(t, r.Receipts, receipts)
		expectSnapshot(t, r.Final, snapshots[len(l)])
		for _, k := range []int{-1, 0, 1, source.Intn(len(l) + 1), len(l) - 1, len(l), len(l) + 1} {
			expectPrefix(t, c, b, k, snapshots[min(max(k, 0), len(l))])
		}
		expectNoViolation(t, c, b)
		expectText(t, c, l, receipts)
		expectTotals(t, l, r)
		again := run(t, c, b)
		expectReceipts(t, again.Receipts, receipts)
		expectSnapshot(t, again.Final, r.Final)
		if !slices.Equal(b, given) {
			t.Error("the script has changed")
		}
		if t.Failed() {
			t.Fatalf("script %d: %v with %+v", n, b, c)
		}
		for _, each := range receipts {
			if each.Code == api.OK {
				accepted[each.Kind]++
			}
		}
	}
	for kind := api.Deposit; kind <= api.Tick; kind++ {
		if accepted[kind] < 100 {
			t.Errorf("%d operations of the kind %d were accepted", accepted[kind], kind)
		}
	}
}

// expectText expects that the text of operations has the lines of their receipts. A malformed operation has a line that is none of an operation, and empty lines do not matter.
func expectText(t *testing.T, c api.Config, l []api.Op, receipts []api.Receipt) {
	t.Helper()
	var text strings.Builder
	var want []string
	for i, o := range l {
		text.WriteString(script.Format(o) + "\n")
		if i%7 == 0 {
			text.WriteString("\n")
		}
		want = append(want, receipt.Format(receipts[i]))
	}
	expectLines(t, c, text.String(), want...)
}

// expectTotals expects that the summary is what the snapshot shows.
func expectTotals(t *testing.T, l []api.Op, r replay.Result) {
	t.Helper()
	s := replay.Summarize(l, r.Receipts)
	if s.Accepted+s.Rejected != len(l) || s.Blocks != r.Final.Block || s.Deposited != r.Final.Deposited || s.Paid != r.Final.Paid || s != summary(l, r.Receipts) {
		t.Errorf("summary %+v; the snapshot is %+v", s, r.Final)
	}
}

// P25.7: whatever the bytes are, First finds no violation, and Run and Prefix agree.
func FuzzBytes(f *testing.F) {
	f.Add(life())
	f.Add([]byte{})
	f.Add([]byte{0, 255, 1, 2, 7, 7})
	f.Add(join(deposit(20), deposit(60), ticks(8), part(0, 9), consolidate(0, 1), slash(1), eject(0), ticks(30)))
	f.Fuzz(func(t *testing.T, b []byte) {
		c := config.Default()
		l, receipts, snapshots := replayed(t, c, b)
		r := run(t, c, b)
		expectReceipts(t, r.Receipts, receipts)
		expectSnapshot(t, r.Final, snapshots[len(l)])
		for k := range snapshots {
			if len(l) < 100 || k%50 == 0 {
				expectPrefix(t, c, b, k, snapshots[k])
			}
		}
		expectPrefix(t, c, b, math.MaxInt, r.Final)
		expectNoViolation(t, c, b)
	})
}

// overwrite changes all elements of a slice, also those beyond its length.
func overwrite[T any](l []T, value T) {
	l = l[:cap(l)]
	for i := range l {
		l[i] = value
	}
}

// overwriteSnapshot changes all lists of a snapshot.
func overwriteSnapshot(s engine.Snapshot) {
	overwrite(s.Validators, api.Validator{Balance: 99, Status: 99})
	overwrite(s.Pending, 99)
	overwrite(s.Forced, 99)
	overwrite(s.Voluntary, 99)
	overwrite(s.Merges, [2]int{99, 99})
	overwrite(s.Partials, partial.Request{Index: 99, Amount: 99})
}

// Rule 4: results share no memory with each other or with the script, and neither do the lists of one result.
func TestMemory(t *testing.T) {
	source := rand.New(rand.NewSource(4))
	for range 200 {
		c, b := randomConfig(source), randomScript(source)
		_, receipts, snapshots := replayed(t, c, b)
		final := snapshots[len(snapshots)-1]
		one, other := run(t, c, b), run(t, c, b)
		state, _ := replay.Prefix(c, b, math.MaxInt)
		for i := range other.Receipts {
			overwrite(other.Receipts[i].Assigned, api.Assignment{Index: 99})
			overwrite(other.Receipts[i].Payments, api.Payment{Index: 99})
			expectReceipts(t, other.Receipts[i+1:], receipts[i+1:])
		}
		overwriteSnapshot(other.Final)
		overwrite(other.Receipts, api.Receipt{Index: 99})
		overwrite(b, 99)
		expectReceipts(t, one.Receipts, receipts)
		expectSnapshot(t, one.Final, final)
		expectSnapshot(t, state, final)
		overwriteSnapshot(state)
		expectSnapshot(t, one.Final, final)
		if t.Failed() {
			return
		}
	}
}
