package replay_test

import (
	"math"
	"reflect"
	"slices"
	"strings"
	"sync"
	"testing"

	"egress/api"
	"egress/config"
	"egress/engine"
	"egress/partial"
	"egress/receipt"
	"egress/replay"
)

const top = math.MaxUint64

// The bytes of operations, as chapter 19 specifies them.
func deposit(amount byte) []byte        { return []byte{1, 0, 0, 0, 0, 0, 0, 0, amount} }
func exit(i byte) []byte                { return []byte{2, 0, i} }
func eject(i byte) []byte               { return []byte{3, 0, i} }
func slash(i byte) []byte               { return []byte{4, 0, i} }
func consolidate(i, target byte) []byte { return []byte{5, 0, i, 0, target} }
func part(i, amount byte) []byte        { return []byte{6, 0, i, 0, 0, 0, 0, 0, 0, 0, amount} }
func ticks(n int) []byte                { return slices.Repeat([]byte{7}, n) }
func join(parts ...[]byte) []byte       { return slices.Concat(parts...) }

// same reports whether two snapshots are equal; a nil slice is equal to an empty one.
func same(a, b engine.Snapshot) bool {
	return slices.Equal(a.Validators, b.Validators) &&
		slices.Equal(a.Pending, b.Pending) && slices.Equal(a.Forced, b.Forced) && slices.Equal(a.Voluntary, b.Voluntary) &&
		slices.Equal(a.Merges, b.Merges) && slices.Equal(a.Partials, b.Partials) &&
		reflect.DeepEqual(plain(a), plain(b))
}

// plain is a snapshot without its lists.
func plain(s engine.Snapshot) engine.Snapshot {
	s.Validators, s.Pending, s.Forced, s.Voluntary, s.Merges, s.Partials = nil, nil, nil, nil, nil, nil
	return s
}

func expectSnapshot(t *testing.T, got, want engine.Snapshot) {
	t.Helper()
	if !same(got, want) {
		t.Errorf("snapshot %+v; want %+v", got, want)
	}
}

func run(t *testing.T, c api.Config, b []byte) replay.Result {
	t.Helper()
	r, code := replay.Run(c, b)
	if code != api.OK {
		t.Fatalf("Run returns the error %d", code)
	}
	return r
}

func expectReceipts(t *testing.T, got, want []api.Receipt) {
	t.Helper()
	if !slices.EqualFunc(got, want, receipt.Same) {
		t.Errorf("receipts %+v; want %+v", got, want)
	}
}

// expectRun expects that a byte script has receipts with these lines, and that First finds no violation. It returns the snapshot.
func expectRun(t *testing.T, c api.Config, b []byte, lines ...string) engine.Snapshot {
	t.Helper()
	r := run(t, c, b)
	var got []string
	for _, each := range r.Receipts {
		got = append(got, receipt.Format(each))
	}
	if !slices.Equal(got, lines) {
		t.Errorf("Run(%v) has the lines %q; want %q", b, got, lines)
	}
	expectNoViolation(t, c, b)
	return r.Final
}

func expectNoViolation(t *testing.T, c api.Config, b []byte) {
	t.Helper()
	if i, code := replay.First(c, b); i != -1 || code != api.OK {
		t.Errorf("First(%+v, %v) = %d, %d; want -1, 0", c, b, i, code)
	}
}

func expectLines(t *testing.T, c api.Config, text string, want ...string) {
	t.Helper()
	if got, code := replay.Lines(c, text); !slices.Equal(got, want) || code != api.OK {
		t.Errorf("Lines(%q) = %q, %d; want %q, 0", text, got, code, want)
	}
}

func expectPrefix(t *testing.T, c api.Config, b []byte, n int, want engine.Snapshot) {
	t.Helper()
	got, code := replay.Prefix(c, b, n)
	if code != api.OK || !same(got, want) {
		t.Errorf("Prefix(%v, %d) = %+v, %d; want %+v, 0", b, n, got, code, want)
	}
}

// life is a script in which a validator is deposited, activated, and leaves, with malformed bytes in between. It has 4 + 5 + 3 + 16 operations.
func life() []byte {
	return join(
		[]byte{0}, deposit(32), []byte{8}, exit(0),
		ticks(4), exit(0),
		[]byte{255}, slash(9), exit(0),
		ticks(16),
	)
}

// P25.1: Run returns the receipt of each operation with all fields, and the snapshot afterwards.
func TestRun(t *testing.T) {
	tick := func(block int) api.Receipt {
		return api.Receipt{Kind: api.Tick, Index: -1, Block: block, Epoch: block / 4, Deadline: -1, Visits: 1}
	}
	want := []api.Receipt{
		{Kind: api.Malformed, Code: api.ErrOp, Index: -1, Deadline: -1},
		{Kind: api.Deposit, Index: 0, Deadline: -1},
		{Kind: api.Malformed, Code: api.ErrOp, Index: -1, Deadline: -1},
		{Kind: api.Exit, Code: api.ErrStatus, Index: -1, Deadline: -1},
		tick(1), tick(2), tick(3), tick(4),
		{Kind: api.Exit, Index: 0, Block: 4, Epoch: 1, Deadline: 8},
		{Kind: api.Malformed, Code: api.ErrOp, Index: -1, Block: 4, Epoch: 1, Deadline: -1},
		{Kind: api.Slash, Code: api.ErrIndex, Index: -1, Block: 4, Epoch: 1, Deadline: -1},
		{Kind: api.Exit, Code: api.ErrStatus, Index: -1, Block: 4, Epoch: 1, Deadline: -1},
	}
	for block := 5; block <= 20; block++ {
		want = append(want, tick(block))
	}
	want[15].Assigned = []api.Assignment{{Index: 0, Class: api.Voluntary, Epoch: 3}}
	want[27].Payments = []api.Payment{{Index: 0, Amount: 32, Full: true}}
	r := run(t, config.Default(), life())
	expectReceipts(t, r.Receipts, want)
	expectSnapshot(t, r.Final, engine.Snapshot{
		Block: 20, Epoch: 5, Deposited: 32, Paid: 32,
		Validators: []api.Validator{{Status: api.Paid, Request: 1, Exit: 3, Withdraw: 5, Deadline: 8}},
	})
}

// P25.1: operations of each kind, with the queues that are left.
func TestKinds(t *testing.T) {
	c := config.Default()
	c.MinChurn = 200
	b := join(
		deposit(20), deposit(30), deposit(40), deposit(50), deposit(60),
		ticks(4),
		eject(1), exit(2), slash(3), consolidate(0, 4), part(4, 9),
		deposit(16), deposit(15),
	)
	s := expectRun(t, c, b,
		"deposit ok 0", "deposit ok 1", "deposit ok 2", "deposit ok 3", "deposit ok 4",
		"tick block 1 epoch 0 visits 5", "tick block 2 epoch 0 visits 5", "tick block 3 epoch 0 visits 5", "tick block 4 epoch 1 visits 5",
		"eject ok 1 by 6", "exit ok 2 by 6", "slash ok 3", "consolidate ok 0", "partial ok 4",
		"deposit ok 5", "deposit error 3",
	)
	expectSnapshot(t, s, engine.Snapshot{
		Block: 4, Epoch: 1, Deposited: 216, Burned: 12, Active: 188,
		Validators: []api.Validator{
			{Balance: 20, Status: api.Active, Request: -1, Exit: -1, Withdraw: -1, Deadline: -1},
			{Balance: 30, Status: api.Exiting, Request: 1, Exit: -1, Withdraw: -1, Deadline: 6},
			{Balance: 40, Status: api.Exiting, Request: 1, Exit: -1, Withdraw: -1, Deadline: 6},
			{Balance: 38, Status: api.Exiting, Slashed: true, Request: 1, Exit: -1, Withdraw: 6, Deadline: -1},
			{Balance: 60, Status: api.Active, Request: -1, Exit: -1, Withdraw: -1, Deadline: -1},
			{Balance: 16, Status: api.Pending, Request: -1, Exit: -1, Withdraw: -1, Deadline: -1},
		},
		Pending: []int{5}, Forced: []int{1, 3}, Voluntary: []int{2},
		Merges: [][2]int{{0, 4}}, Partials: []partial.Request{{Index: 4, Amount: 9}},
	})
}

// P25.1: the configuration is that of the engine.
func TestConfiguration(t *testing.T) {
	c := config.Default()
	c.EpochLen, c.MinDeposit, c.Capacity = 1, 8, 2
	expectRun(t, c, join(deposit(7), deposit(8), deposit(9), deposit(10), ticks(1)),
		"deposit error 3", "deposit ok 0", "deposit ok 1", "deposit error 5", "tick block 1 epoch 1 visits 2")
}

// P25.1: each malformed entry has a receipt, and changes nothing.
func TestMalformed(t *testing.T) {
	c := config.Default()
	const rejected = "malformed error 11"
	for b := 0; b <= 255; b++ {
		kind := byte(b)
		if kind == api.Tick {
			continue
		}
		// Bytes 8 and more are no kind, and those of a kind need operands.
		s := expectRun(t, c, []byte{kind}, rejected)
		expectSnapshot(t, s, engine.Snapshot{})
		want := []string{"deposit ok 0", rejected}
		if kind == 0 || kind > 7 {
			want = append(want, "tick block 1 epoch 0 visits 1")
		}
		expectRun(t, c, join(deposit(32), []byte{kind}, ticks(1)), want...)
	}
	for _, each := range [][]byte{deposit(32), exit(0), eject(0), slash(0), consolidate(0, 0), part(0, 1)} {
		for size := 1; size < len(each); size++ {
			s := expectRun(t, c, join(ticks(1), each[:size]), "tick block 1 epoch 0 visits 0", rejected)
			expectSnapshot(t, s, engine.Snapshot{Block: 1})
		}
	}
	expectRun(t, c, []byte{0, 0, 9}, rejected, rejected, rejected)
}

func TestEmpty(t *testing.T) {
	c := config.Default()
	for _, b := range [][]byte{nil, {}, life()[:0]} {
		expectSnapshot(t, expectRun(t, c, b), engine.Snapshot{})
		for _, n := range []int{math.MinInt, -1, 0, 1, math.MaxInt} {
			expectPrefix(t, c, b, n, engine.Snapshot{})
		}
	}
	for _, text := range []string{"", "\n", "\n\n\n"} {
		expectLines(t, c, text)
	}
}

// Rule 4: what is beyond the length of a slice is no part of the script.
func TestBeyondTheLength(t *testing.T) {
	c := config.Default()
	b := join(ticks(1), deposit(32))
	s := expectRun(t, c, b[:9], "tick block 1 epoch 0 visits 0", "malformed error 11")
	expectSnapshot(t, s, engine.Snapshot{Block: 1})
	expectPrefix(t, c, b[:9], 5, engine.Snapshot{Block: 1})
}

// The example of the chapter.
func TestExample(t *testing.T) {
	expectLines(t, config.Default(), "tick\nexit 0", "tick block 1 epoch 0 visits 0", "exit error 7")
}

// P25.2: Lines has a line for each operation of a text.
func TestLines(t *testing.T) {
	c := config.Default()
	c.EpochLen, c.MinChurn = 1, 100
	text := `deposit 32
deposit 40

fly
tick
exit 0
eject 1
slash 1
partial 0 7
consolidate 0 0
consolidate 0 1
exit  0
exit 65536
tick
tick

tick
tick
deposit 18446744073709551615
tick`
	expectLines(t, c, text,
		"deposit ok 0",
		"deposit ok 1",
		"malformed error 11",
		"tick block 1 epoch 1 visits 2",
		"exit ok 0 by 12",
		"eject ok 1 by 13",
		"slash ok 1",
		"partial error 8",
		"consolidate error 12",
		"consolidate error 8",
		"malformed error 11",
		"malformed error 11",
		"tick block 2 epoch 2 visits 2 1f@3 0v@3",
		"tick block 3 epoch 3 visits 2",
		"tick block 4 epoch 4 visits 2",
		"tick block 5 epoch 5 visits 2 0+32!",
		"deposit error 3",
		"tick block 6 epoch 6 visits 2 1+30!",
	)
	for _, text := range []string{"fly", "tick ", " tick", "tick\r", "Tick", "malformed", "tick 1", "deposit", "deposit 032", "\x00", "\xff"} {
		expectLines(t, c, text, "malformed error 11")
		expectLines(t, c, "\n"+text+"\n\ntick\n", "malformed error 11", "tick block 1 epoch 1 visits 0")
	}
}

// P25.3: Prefix counts operations, malformed and rejected ones too.
func TestPrefix(t *testing.T) {
	c := config.Default()
	b := life()
	before := engine.Snapshot{
		Deposited: 32, Pending: []int{0},
		Validators: []api.Validator{{Balance: 32, Status: api.Pending, Request: -1, Exit: -1, Withdraw: -1, Deadline: -1}},
	}
	active := engine.Snapshot{
		Block: 4, Epoch: 1, Deposited: 32, Active: 32,
		Validators: []api.Validator{{Balance: 32, Status: api.Active, Request: -1, Exit: -1, Withdraw: -1, Deadline: -1}},
	}
	exiting := engine.Snapshot{
		Block: 4, Epoch: 1, Deposited: 32, Active: 32, Voluntary: []int{0},
		Validators: []api.Validator{{Balance: 32, Status: api.Exiting, Request: 1, Exit: -1, Withdraw: -1, Deadline: 8}},
	}
	held := engine.Snapshot{
		Block: 19, Epoch: 4, Deposited: 32, Unbonding: 1,
		Validators: []api.Validator{{Balance: 32, Status: api.Unbonding, Request: 1, Exit: 3, Withdraw: 5, Deadline: 8}},
	}
	for n, want := range map[int]engine.Snapshot{
		math.MinInt: {}, math.MinInt + 1: {}, -1 << 32: {}, -2: {}, -1: {}, 0: {}, 1: {},
		2: before, 3: before, 4: before,
		8: active, 9: exiting, 10: exiting, 11: exiting, 12: exiting, 27: held,
	} {
		expectPrefix(t, c, b, n, want)
	}
	final := run(t, c, b).Final
	for _, n := range []int{28, 29, 30, len(b), len(b) + 1, 1 << 32, 1<<32 + 1, math.MaxInt - 1, math.MaxInt} {
		expectPrefix(t, c, b, n, final)
	}
}

// invalid has configurations that are not valid: each field is wrong in some of them.
func invalid(t *testing.T) []api.Config {
	t.Helper()
	l := []api.Config{{}, {Capacity: 1}, {EpochLen: 4, Visits: 1, Payments: 1}}
	for field := 1; field <= 20; field++ {
		found := false
		for _, value := range []uint64{0, 15, 65, 4097, 1 << 31, 1<<32 + 1, 1<<60 + 1, top} {
			if c, ok := config.Set(config.Default(), field, value); ok && config.Check(c) == field {
				l, found = append(l, c), true
			}
		}
		if !found {
			t.Errorf("no wrong value for the field %d", field)
		}
	}
	for _, n := range []int{-1, math.MinInt, math.MaxInt} {
		for _, change := range []func(c *api.Config){
			func(c *api.Config) { c.Capacity = n },
			func(c *api.Config) { c.QueueSize = n },
			func(c *api.Config) { c.EpochLen = n },
			func(c *api.Config) { c.RingLen = n },
			func(c *api.Config) { c.Partials = n },
			func(c *api.Config) { c.Merges = n },
		} {
			c := config.Default()
			change(&c)
			l = append(l, c)
		}
	}
	return l
}

// P25.5: without an engine, all results are zero values beside the error.
func TestInvalidConfiguration(t *testing.T) {
	texts := []string{"", "\n", "fly", "deposit 32\ntick", strings.Repeat("tick\n", 9)}
	for _, c := range invalid(t) {
		for _, b := range [][]byte{nil, {0}, ticks(9), life()} {
			if r, code := replay.Run(c, b); len(r.Receipts) != 0 || !same(r.Final, engine.Snapshot{}) || code != api.ErrConfig {
				t.Errorf("Run(%+v, %v) = %+v, %d", c, b, r, code)
			}
			for _, n := range []int{math.MinInt, -1, 0, 1, 9, math.MaxInt} {
				if s, code := replay.Prefix(c, b, n); !same(s, engine.Snapshot{}) || code != api.ErrConfig {
					t.Errorf("Prefix(%+v, %v, %d) = %+v, %d", c, b, n, s, code)
				}
			}
			if i, code := replay.First(c, b); i != 0 || code != api.ErrConfig {
				t.Errorf("First(%+v, %v) = %d, %d", c, b, i, code)
			}
		}
		for _, text := range texts {
			if l, code := replay.Lines(c, text); len(l) != 0 || code != api.ErrConfig {
				t.Errorf("Lines(%+v, %q) = %q, %d", c, text, l, code)
			}
		}
	}
}

// P25.5: the limits of the configuration are those of chapter 3, also the greatest ones.
func TestValidConfigurations(t *testing.T) {
	for field := 1; field <= 20; field++ {
		for _, value := range []uint64{0, 1, 2, 3, 8, 16, 64, 128, 4096, 1 << 20, 1 << 32, 1 << 60} {
			c, ok := config.Set(config.Default(), field, value)
			if !ok || !config.Valid(c) {
				continue
			}
			r := run(t, c, life())
			expectPrefix(t, c, life(), math.MaxInt, r.Final)
			expectNoViolation(t, c, life())
			if _, code := replay.Lines(c, "tick"); code != api.OK {
				t.Errorf("Lines returns %d with %+v", code, c)
			}
		}
	}
}

// Rule 6 and P25.7: the functions may be called concurrently, and return the same.
func TestConcurrently(t *testing.T) {
	c, b := config.Default(), life()
	want := run(t, c, b)
	var group sync.WaitGroup
	for range 8 {
		group.Go(func() {
			for range 50 {
				r, code := replay.Run(c, b)
				s, prefixCode := replay.Prefix(c, b, 28)
				i, firstCode := replay.First(c, b)
				l, linesCode := replay.Lines(c, "tick")
				if code+prefixCode+firstCode+linesCode != api.OK || i != -1 || len(l) != 1 {
					t.Error(code, prefixCode, firstCode, linesCode, i, l)
				}
				if !slices.EqualFunc(r.Receipts, want.Receipts, receipt.Same) || !same(r.Final, want.Final) || !same(s, want.Final) {
					t.Error(r, s)
				}
				if _, code := replay.Run(api.Config{}, b); code != api.ErrConfig {
					t.Error(code)
				}
			}
		})
	}
	group.Wait()
}
