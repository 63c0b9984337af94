package config_test

import (
	"math"
	"math/big"
	"reflect"
	"testing"

	"egress/api"
	"egress/config"
)

const (
	fields = 20
	top    = 1<<64 - 1
)

// The numbers of the fields, written out here so that a wrong order in the package is seen.
const (
	capacity = iota + 1
	queueSize
	minDeposit
	maxDeposit
	supplyCap
	minBalance
	maxBalance
	minChurn
	quotient
	forcedCap
	unbonding
	slashDelay
	ringLen
	epochLen
	visits
	payments
	partials
	merges
	penaltyNum
	penaltyDen
)

// place is a field of a configuration by its number. It relies on the declaration of api.Config, not on package config.
func place(c *api.Config, field int) reflect.Value {
	return reflect.ValueOf(c).Elem().Field(field - 1)
}

func isInt(field int) bool {
	var c api.Config
	return place(&c, field).Kind() == reflect.Int
}

// value gives the value of a field as an integer of any size.
func value(c api.Config, field int) *big.Int {
	if isInt(field) {
		return big.NewInt(place(&c, field).Int())
	}
	return new(big.Int).SetUint64(place(&c, field).Uint())
}

// with returns the configuration with a changed field. Negative ints are given in two's complement.
func with(c api.Config, field int, v uint64) api.Config {
	if isInt(field) {
		place(&c, field).SetInt(int64(v))
	} else {
		place(&c, field).SetUint(v)
	}
	return c
}

// valueOf is the value of an int argument of with.
func valueOf(n int) uint64 { return uint64(n) }

// bound is a condition as the chapter's table has it: the value of a field compared with another one or with a number.
type bound struct {
	field, sign int // the sign of the comparison that does not hold
	equal       bool
	other       int // the number of the other field, or 0
	number      uint64
}

func atLeast(field int, n uint64) bound   { return bound{field: field, sign: -1, number: n} }
func atMost(field int, n uint64) bound    { return bound{field: field, sign: 1, number: n} }
func atLeastField(field, other int) bound { return bound{field: field, sign: -1, other: other} }
func atMostField(field, other int) bound  { return bound{field: field, sign: 1, other: other} }
func greater(field, other int) bound      { return bound{field: field, sign: -1, equal: true, other: other} }
func less(field, other int) bound         { return bound{field: field, sign: 1, equal: true, other: other} }

func (b bound) holds(c api.Config) bool {
	limit := new(big.Int).SetUint64(b.number)
	if b.other != 0 {
		limit = value(c, b.other)
	}
	sign := value(c, b.field).Cmp(limit)
	return sign != b.sign && !(b.equal && sign == 0)
}

// bounds is the table of the chapter, in the order of the fields.
func bounds() []bound {
	return []bound{
		atLeast(capacity, 1), atMost(capacity, 4096),
		atLeast(queueSize, 1), atMost(queueSize, 4096),
		atLeast(minDeposit, 1),
		atLeastField(maxDeposit, minDeposit),
		atLeastField(supplyCap, maxDeposit), atMost(supplyCap, api.MaxAmount),
		atLeast(minBalance, 1), atMostField(minBalance, minDeposit),
		atLeastField(maxBalance, maxDeposit), atMostField(maxBalance, supplyCap),
		atLeast(minChurn, 1), atMost(minChurn, api.MaxAmount),
		atLeast(quotient, 1),
		atMost(forcedCap, api.MaxAmount),
		atLeast(unbonding, 1), atMost(unbonding, 1<<20),
		greater(slashDelay, unbonding), atMost(slashDelay, 1<<20),
		atLeast(ringLen, 1), atMost(ringLen, 4096),
		atLeast(epochLen, 1), atMost(epochLen, 4096),
		atLeast(visits, 1), atMost(visits, 4096),
		atLeast(payments, 1), atMost(payments, 4096),
		atLeast(partials, 0), less(partials, visits), less(partials, payments),
		atLeast(merges, 0), atMost(merges, 4096),
		atMostField(penaltyNum, penaltyDen),
		atLeast(penaltyDen, 1), atMost(penaltyDen, 1<<32),
	}
}

// check is the specification of Check.
func check(c api.Config) int {
	for _, b := range bounds() {
		if !b.holds(c) {
			return b.field
		}
	}
	return 0
}

// samples are values around the limits of all fields, around the fields of the default configuration, and around the limits of a word.
func samples() []uint64 {
	all := []uint64{0, 1, 2, 3, 4, 5, 6, 7, 8, 9, top, top - 1, top - 4095, 1 << 63, 1<<63 - 1, 1<<63 + 1}
	for _, n := range []uint64{16, 32, 64, 128, 1024, 4096, 1 << 20, 1 << 31, 1 << 32, 1 << 40, 1 << 60} {
		all = append(all, n-1, n, n+1)
	}
	return all
}

func expectCheck(t *testing.T, c api.Config, want int) {
	t.Helper()
	if got := config.Check(c); got != want {
		t.Errorf("Check(%+v) = %d; want %d", c, got, want)
	}
	if got := config.Valid(c); got != (want == 0) {
		t.Errorf("Valid(%+v) = %v, but Check should return %d", c, got, want)
	}
}

// wide is a valid configuration whose fields do not limit each other before they reach a limit of their own.
func wide() api.Config {
	return api.Config{
		Capacity: 4096, QueueSize: 4096, MinDeposit: 1 << 20, MaxDeposit: 1 << 40, SupplyCap: 1 << 60,
		MinBalance: 1, MaxBalance: 1 << 50, MinChurn: 1 << 60, Quotient: top, ForcedCap: 1 << 60,
		Unbonding: 1, SlashDelay: 1 << 20, RingLen: 4096, EpochLen: 4096, Visits: 4096, Payments: 4096,
		Partials: 0, Merges: 4096, PenaltyNum: 0, PenaltyDen: 1 << 32,
	}
}

// narrow is the valid configuration with the least values.
func narrow() api.Config {
	return api.Config{
		Capacity: 1, QueueSize: 1, MinDeposit: 1, MaxDeposit: 1, SupplyCap: 1, MinBalance: 1, MaxBalance: 1,
		MinChurn: 1, Quotient: 1, ForcedCap: 0, Unbonding: 1, SlashDelay: 2, RingLen: 1, EpochLen: 1,
		Visits: 1, Payments: 1, Partials: 0, Merges: 0, PenaltyNum: 0, PenaltyDen: 1,
	}
}

// P3.1: the numbers of this test are the declared ones.
func TestFieldNumbers(t *testing.T) {
	declared := reflect.TypeOf(api.Config{})
	if declared.NumField() != fields {
		t.Fatalf("api.Config has %d fields", declared.NumField())
	}
	for field, name := range map[int]string{
		capacity: "Capacity", minDeposit: "MinDeposit", forcedCap: "ForcedCap", slashDelay: "SlashDelay", penaltyDen: "PenaltyDen",
	} {
		if got := declared.Field(field - 1).Name; got != name {
			t.Errorf("field %d is %s; want %s", field, got, name)
		}
	}
}

// P3.1: both sides of each limit, in configurations whose other fields satisfy their conditions.
func TestCheckLimits(t *testing.T) {
	for _, x := range []struct {
		field     int
		good, bad []uint64
	}{
		{capacity, []uint64{1, 4096}, []uint64{0, 4097, valueOf(-1), valueOf(math.MinInt), valueOf(math.MaxInt)}},
		{queueSize, []uint64{1, 4096}, []uint64{0, 4097, valueOf(-1), valueOf(math.MinInt), valueOf(math.MaxInt)}},
		{minDeposit, []uint64{1, 1 << 40}, []uint64{0}},
		{maxDeposit, []uint64{1 << 20, 1 << 50}, []uint64{1<<20 - 1, 0}},
		{supplyCap, []uint64{1 << 50, 1 << 60}, []uint64{1<<60 + 1, 1<<40 - 1, 0, top}},
		{minBalance, []uint64{1, 1 << 20}, []uint64{0, 1<<20 + 1, top}},
		{maxBalance, []uint64{1 << 40, 1 << 60}, []uint64{1<<40 - 1, 1<<60 + 1, 0, top}},
		{minChurn, []uint64{1, 1 << 60}, []uint64{0, 1<<60 + 1, top}},
		{quotient, []uint64{1, top}, []uint64{0}},
		{forcedCap, []uint64{0, 1 << 60}, []uint64{1<<60 + 1, top}},
		{unbonding, []uint64{1, 1<<20 - 1}, []uint64{0, 1<<20 + 1, valueOf(-1), valueOf(math.MinInt), valueOf(math.MaxInt)}},
		{slashDelay, []uint64{2, 1 << 20}, []uint64{1, 0, 1<<20 + 1, valueOf(-1), valueOf(math.MinInt), valueOf(math.MaxInt)}},
		{ringLen, []uint64{1, 4096}, []uint64{0, 4097, valueOf(-1), valueOf(math.MinInt), valueOf(math.MaxInt)}},
		{epochLen, []uint64{1, 4096}, []uint64{0, 4097, valueOf(-1), valueOf(math.MinInt), valueOf(math.MaxInt)}},
		{visits, []uint64{1, 4096}, []uint64{0, 4097, valueOf(-1), valueOf(math.MinInt), valueOf(math.MaxInt)}},
		{payments, []uint64{1, 4096}, []uint64{0, 4097, valueOf(-1), valueOf(math.MinInt), valueOf(math.MaxInt)}},
		{partials, []uint64{0, 4095}, []uint64{4096, 4097, valueOf(-1), valueOf(math.MinInt), valueOf(math.MaxInt)}},
		{merges, []uint64{0, 4096}, []uint64{4097, valueOf(-1), valueOf(math.MinInt), valueOf(math.MaxInt)}},
		{penaltyNum, []uint64{0, 1 << 32}, []uint64{1<<32 + 1, top}},
		{penaltyDen, []uint64{1, 1 << 32}, []uint64{0, 1<<32 + 1, top}},
	} {
		for _, v := range x.good {
			expectCheck(t, with(wide(), x.field, v), 0)
		}
		for _, v := range x.bad {
			expectCheck(t, with(wide(), x.field, v), x.field)
		}
	}
}

// P3.1: the conditions between two fields, both sides of equality.
func TestCheckRelations(t *testing.T) {
	type change struct {
		field int
		value uint64
	}
	for _, x := range []struct {
		changes []change
		want    int
	}{
		{[]change{{minDeposit, 64}}, 0},
		{[]change{{minDeposit, 65}}, maxDeposit},
		{[]change{{maxDeposit, 16}}, 0},
		{[]change{{maxDeposit, 15}}, maxDeposit},
		{[]change{{maxDeposit, 128}}, 0},
		{[]change{{maxDeposit, 129}}, maxBalance},
		{[]change{{maxDeposit, 1025}}, supplyCap},
		{[]change{{maxDeposit, top}}, supplyCap},
		{[]change{{minDeposit, top}, {maxDeposit, top}}, supplyCap},
		{[]change{{minDeposit, top}, {maxDeposit, top}, {supplyCap, top}}, supplyCap},
		{[]change{{supplyCap, 128}}, 0},
		{[]change{{supplyCap, 127}}, maxBalance},
		{[]change{{supplyCap, 64}, {maxBalance, 64}}, 0},
		{[]change{{supplyCap, 63}, {maxBalance, 64}}, supplyCap},
		{[]change{{minBalance, 16}}, 0},
		{[]change{{minBalance, 17}}, minBalance},
		{[]change{{minDeposit, 7}}, minBalance},
		{[]change{{maxBalance, 64}}, 0},
		{[]change{{maxBalance, 63}}, maxBalance},
		{[]change{{maxBalance, 1024}}, 0},
		{[]change{{maxBalance, 1025}}, maxBalance},
		{[]change{{slashDelay, 3}}, 0},
		{[]change{{slashDelay, 2}}, slashDelay},
		{[]change{{unbonding, 4}}, 0},
		{[]change{{unbonding, 5}}, slashDelay},
		{[]change{{unbonding, 1<<20 - 1}, {slashDelay, 1 << 20}}, 0},
		{[]change{{unbonding, 1 << 20}, {slashDelay, 1 << 20}}, slashDelay},
		{[]change{{unbonding, 1 << 20}, {slashDelay, 1<<20 + 1}}, slashDelay},
		{[]change{{unbonding, valueOf(math.MaxInt)}, {slashDelay, valueOf(math.MinInt)}}, unbonding},
		{[]change{{partials, 3}}, 0},
		{[]change{{partials, 4}}, partials},
		{[]change{{visits, 3}}, 0},
		{[]change{{visits, 2}}, partials},
		{[]change{{payments, 3}}, 0},
		{[]change{{payments, 2}}, partials},
		{[]change{{visits, 3}, {partials, 3}}, partials},
		{[]change{{payments, 7}, {partials, 6}}, partials},
		{[]change{{payments, 7}, {partials, 5}}, 0},
		{[]change{{partials, 0}, {visits, 1}, {payments, 1}}, 0},
		{[]change{{penaltyNum, 4}}, 0},
		{[]change{{penaltyNum, 5}}, penaltyNum},
		{[]change{{penaltyDen, 1}}, 0},
		{[]change{{penaltyNum, 0}}, 0},
		{[]change{{penaltyDen, 0}}, penaltyNum},
		{[]change{{penaltyDen, 0}, {penaltyNum, 0}}, penaltyDen},
		{[]change{{penaltyDen, 1<<32 + 1}}, penaltyDen},
	} {
		c := config.Default()
		for _, change := range x.changes {
			c = with(c, change.field, change.value)
		}
		expectCheck(t, c, x.want)
	}
}

// P3.1: the first of several invalid fields counts.
func TestCheckFirst(t *testing.T) {
	expectCheck(t, api.Config{}, capacity)
	c := wide()
	for field := fields; field >= 1; field-- {
		// As an amount, -1 is the greatest one. It is wrong for most fields.
		wrong := valueOf(-1)
		switch field {
		case minDeposit, quotient:
			wrong = 0
		case maxDeposit:
			wrong = 1<<20 - 1
		case penaltyDen:
			wrong = 1<<32 + 1
		}
		c = with(c, field, wrong)
		if got := config.Check(c); got != field {
			t.Errorf("the fields from %d on are wrong, but Check = %d", field, got)
		}
	}
}

// P3.1: every field with every sample, in several configurations.
func TestCheckEachField(t *testing.T) {
	for _, c := range []api.Config{config.Default(), wide(), narrow(), {}} {
		expectCheck(t, c, check(c))
		for field := 1; field <= fields; field++ {
			for _, v := range samples() {
				changed := with(c, field, v)
				expectCheck(t, changed, check(changed))
			}
		}
	}
}

// P3.1: every two fields with every two of some samples.
func TestCheckPairs(t *testing.T) {
	values := []uint64{0, 1, 2, 4, 5, 16, 64, 65, 128, 1024, 4096, 4097, 1 << 20, 1 << 32, 1 << 60, 1<<60 + 1, 1 << 63, top}
	for a := 1; a <= fields; a++ {
		for b := a + 1; b <= fields; b++ {
			for _, v := range values {
				for _, w := range values {
					c := with(with(config.Default(), a, v), b, w)
					expectCheck(t, c, check(c))
				}
			}
		}
	}
}

// P3.2
func TestDefault(t *testing.T) {
	want := []uint64{16, 8, 16, 64, 1024, 8, 128, 32, 4, 64, 2, 5, 4, 4, 6, 4, 2, 2, 1, 4}
	c := config.Default()
	for i, v := range want {
		if got := value(c, i+1); got.Cmp(new(big.Int).SetUint64(v)) != 0 {
			t.Errorf("field %d of Default is %v; want %d", i+1, got, v)
		}
	}
	expectCheck(t, c, 0)
}

// P2: a result that was changed does not change the next one.
func TestDefaultIndependent(t *testing.T) {
	c := config.Default()
	c.Capacity, c.PenaltyDen = 1, 9
	if again := config.Default(); again.Capacity != 16 || again.PenaltyDen != 4 {
		t.Errorf("Default = %+v after a change of its last result", again)
	}
}

// P3.3: the example of the document, either budget as the smaller one, exact and rounded quotients, and the limits.
func TestSweepCases(t *testing.T) {
	for _, x := range []struct {
		capacity, visits, payments, partials int
		wantVisits, wantPayments, wantBlocks int
	}{
		{16, 6, 4, 2, 4, 2, 8},
		{16, 4, 6, 2, 2, 4, 8},
		{16, 6, 6, 2, 4, 4, 4},
		{15, 6, 4, 2, 4, 2, 8},
		{17, 6, 4, 2, 4, 2, 9},
		{16, 6, 4, 0, 6, 4, 4},
		{16, 3, 9, 0, 3, 9, 6},
		{15, 3, 9, 0, 3, 9, 5},
		{14, 3, 9, 0, 3, 9, 5},
		{13, 3, 9, 0, 3, 9, 5},
		{12, 3, 9, 0, 3, 9, 4},
		{1, 1, 1, 0, 1, 1, 1},
		{1, 4096, 4096, 0, 4096, 4096, 1},
		{4096, 4096, 4096, 0, 4096, 4096, 1},
		{4096, 4096, 4095, 0, 4096, 4095, 2},
		{4096, 4096, 4096, 4095, 1, 1, 4096},
		{4096, 2, 4096, 1, 1, 4095, 4096},
		{4096, 4096, 2, 1, 4095, 1, 4096},
	} {
		c := config.Default()
		c.Capacity, c.Visits, c.Payments, c.Partials = x.capacity, x.visits, x.payments, x.partials
		expectCheck(t, c, 0)
		v, p, b := config.SweepVisits(c), config.SweepPayments(c), config.SweepBlocks(c)
		if v != x.wantVisits || p != x.wantPayments || b != x.wantBlocks {
			t.Errorf("capacity %d, visits %d, payments %d, partials %d: %d, %d, %d; want %d, %d, %d",
				x.capacity, x.visits, x.payments, x.partials, v, p, b, x.wantVisits, x.wantPayments, x.wantBlocks)
		}
	}
}

// P3.3: the blocks of a sweep are counted here without a division.
func TestSweepBlocks(t *testing.T) {
	for capacity := 1; capacity <= 24; capacity++ {
		for visits := 1; visits <= 7; visits++ {
			for payments := 1; payments <= 7; payments++ {
				for partials := 0; partials < visits && partials < payments; partials++ {
					c := config.Default()
					c.Capacity, c.Visits, c.Payments, c.Partials = capacity, visits, payments, partials
					want := 0
					for left := capacity; left > 0; want++ {
						left -= min(visits, payments) - partials
					}
					if got := config.SweepBlocks(c); got != want {
						t.Errorf("capacity %d, visits %d, payments %d, partials %d: %d blocks; want %d",
							capacity, visits, payments, partials, got, want)
					}
				}
			}
		}
	}
}

// P1: no configuration makes the functions panic, although the results for invalid ones are not specified.
func TestInvalidConfigurations(t *testing.T) {
	values := []int{math.MinInt, math.MinInt + 1, -1, 0, 1, 2, math.MaxInt - 1, math.MaxInt}
	for _, capacity := range values {
		for _, visits := range values {
			for _, payments := range values {
				for _, partials := range values {
					c := api.Config{Capacity: capacity, Visits: visits, Payments: payments, Partials: partials}
					config.SweepVisits(c)
					config.SweepPayments(c)
					config.SweepBlocks(c)
					expectCheck(t, c, check(c))
				}
			}
		}
	}
}

func expectSet(t *testing.T, c api.Config, field int, v uint64, want api.Config, wantOK bool) {
	t.Helper()
	if got, ok := config.Set(c, field, v); got != want || ok != wantOK {
		t.Errorf("Set(%+v, %d, %d) = %+v, %v; want %+v, %v", c, field, v, got, ok, want, wantOK)
	}
}

// P3.4: every field with every sample; values that do not satisfy the condition of the field are no errors.
func TestSet(t *testing.T) {
	for _, c := range []api.Config{config.Default(), wide(), narrow(), {}} {
		for field := 1; field <= fields; field++ {
			for _, v := range samples() {
				if isInt(field) && v > 1<<31 {
					expectSet(t, c, field, v, api.Config{}, false)
				} else {
					expectSet(t, c, field, v, with(c, field, v), true)
				}
			}
		}
	}
}

// P3.4: both types of fields, at both sides of the limit of an int.
func TestSetCases(t *testing.T) {
	c := config.Default()
	for _, field := range []int{capacity, queueSize, unbonding, slashDelay, ringLen, epochLen, visits, payments, partials, merges} {
		expectSet(t, c, field, 1<<31, with(c, field, 1<<31), true)
		expectSet(t, c, field, 1<<31+1, api.Config{}, false)
		expectSet(t, c, field, 1<<32, api.Config{}, false)
		expectSet(t, c, field, 1<<63, api.Config{}, false)
		expectSet(t, c, field, top, api.Config{}, false)
	}
	for _, field := range []int{minDeposit, maxDeposit, supplyCap, minBalance, maxBalance, minChurn, quotient, forcedCap, penaltyNum, penaltyDen} {
		expectSet(t, c, field, 1<<31+1, with(c, field, 1<<31+1), true)
		expectSet(t, c, field, top, with(c, field, top), true)
	}
}

// P3.4: there is no such field.
func TestSetNoField(t *testing.T) {
	for _, field := range []int{0, -1, fields + 1, -fields, 1 << 32, 1<<32 + 1, math.MinInt, math.MaxInt} {
		for _, v := range []uint64{0, 1, 1 << 31, top} {
			expectSet(t, config.Default(), field, v, api.Config{}, false)
		}
	}
}

// P3.4: Set neither repairs nor refuses a configuration that is invalid elsewhere, and the result can be set again.
func TestSetAll(t *testing.T) {
	want := wide()
	var c api.Config
	for field := 1; field <= fields; field++ {
		next, ok := config.Set(c, field, value(want, field).Uint64())
		if !ok {
			t.Fatalf("Set refuses field %d", field)
		}
		c = next
	}
	if c != want {
		t.Errorf("all fields set: %+v; want %+v", c, want)
	}
}

// P3.4: the argument is not modified.
func TestSetKeepsArgument(t *testing.T) {
	c := config.Default()
	for field := 1; field <= fields; field++ {
		config.Set(c, field, 77)
		config.Set(c, field, top)
	}
	if c != config.Default() {
		t.Errorf("Set changed its argument to %+v", c)
	}
}
