package gwei_test

import (
	"math/big"
	"slices"
	"strconv"
	"strings"
	"testing"

	"egress/gwei"
)

const top = 1<<64 - 1

// samples are amounts at which the width of a word or the sign of an int matters, with their neighbours, and some ordinary ones.
var samples = []uint64{
	0, 1, 2, 3, 4, 5, 7, 10, 63, 64, 100, 999, 1000,
	1<<31 - 1, 1 << 31, 1<<32 - 1, 1 << 32, 1<<32 + 1, 1 << 40, 1 << 60,
	1<<63 - 1, 1 << 63, 1<<63 + 1, 3 << 62, top - 2, top - 1, top,
}

func integer(a uint64) *big.Int { return new(big.Int).SetUint64(a) }

// word gives an integer as the functions of gwei do: the amount and true, or 0 and false if it is no amount.
func word(n *big.Int) (uint64, bool) {
	if !n.IsUint64() {
		return 0, false
	}
	return n.Uint64(), true
}

// sequences returns lists of every small length over some of the samples.
func sequences() [][]uint64 {
	values := []uint64{0, 1, 7, 1 << 32, 1<<63 - 1, 1 << 63, top - 1, top}
	all := [][]uint64{nil, {}}
	last := [][]uint64{{}}
	for range 4 {
		var next [][]uint64
		for _, l := range last {
			for _, v := range values {
				next = append(next, append(slices.Clone(l), v))
			}
		}
		all = append(all, next...)
		last = next
	}
	return all
}

func total(l []uint64) *big.Int {
	sum := new(big.Int)
	for _, a := range l {
		sum.Add(sum, integer(a))
	}
	return sum
}

// P1.1
func TestAdd(t *testing.T) {
	for _, l := range sequences() {
		before := slices.Clone(l)
		want, wantOK := word(total(l))
		if got, ok := gwei.Add(l...); got != want || ok != wantOK {
			t.Errorf("Add(%v) = %d, %v; want %d, %v", l, got, ok, want, wantOK)
		}
		if !slices.Equal(l, before) {
			t.Errorf("Add changed %v to %v", before, l)
		}
	}
}

// P1.1: the sum wraps around to each of these results if a carry is lost.
func TestAddOverflow(t *testing.T) {
	for _, l := range [][]uint64{
		{top, 1}, {1, top}, {top, 2}, {top, top}, {1 << 63, 1 << 63}, {1 << 63, 1 << 63, 5},
		{5, 1 << 63, 1 << 63}, {top, 1, top}, {0, top, 0, 1, 0}, {1 << 63, 1 << 63, 1 << 63, 1 << 63},
	} {
		if got, ok := gwei.Add(l...); got != 0 || ok {
			t.Errorf("Add(%v) = %d, %v; want 0, false", l, got, ok)
		}
	}
	if got, ok := gwei.Add(); got != 0 || !ok {
		t.Errorf("Add() = %d, %v; want 0, true", got, ok)
	}
}

// P1.1: Add reads all of a long list.
func TestAddMany(t *testing.T) {
	l := make([]uint64, 100000)
	for i := range l {
		l[i] = uint64(i)
	}
	if got, ok := gwei.Add(l...); got != 4999950000 || !ok {
		t.Errorf("Add of 0 to 99999 = %d, %v", got, ok)
	}
	l[len(l)-1] = top
	if got, ok := gwei.Add(l...); got != 0 || ok {
		t.Errorf("Add with the greatest amount at the end = %d, %v", got, ok)
	}
}

// P1.1
func TestSub(t *testing.T) {
	for _, a := range samples {
		for _, b := range samples {
			want, wantOK := word(new(big.Int).Sub(integer(a), integer(b)))
			if got, ok := gwei.Sub(a, b); got != want || ok != wantOK {
				t.Errorf("Sub(%d, %d) = %d, %v; want %d, %v", a, b, got, ok, want, wantOK)
			}
		}
	}
}

// P1.2
func TestMulDiv(t *testing.T) {
	for _, a := range samples {
		for _, b := range samples {
			for _, d := range samples {
				var want uint64
				var wantOK bool
				if d != 0 {
					n := new(big.Int).Mul(integer(a), integer(b))
					want, wantOK = word(n.Quo(n, integer(d)))
				}
				if got, ok := gwei.MulDiv(a, b, d); got != want || ok != wantOK {
					t.Errorf("MulDiv(%d, %d, %d) = %d, %v; want %d, %v", a, b, d, got, ok, want, wantOK)
				}
			}
		}
	}
}

// P1.2: the example of the document, rounding, and both sides of each limit.
func TestMulDivCases(t *testing.T) {
	for _, c := range []struct {
		a, b, d, want uint64
		ok            bool
	}{
		{1 << 63, 6, 4, 3 << 62, true},
		{7, 3, 2, 10, true},
		{50, 1, 4, 12, true},
		{0, top, 1, 0, true},
		{top, 0, top, 0, true},
		{top, top, top, top, true},
		{top, top, top - 1, 0, false},
		{1 << 32, 1 << 32, 1, 0, false},
		{1 << 32, 1 << 32, 2, 1 << 63, true},
		{top, 2, 2, top, true},
		{top, 2, 1, 0, false},
		{0, 0, 0, 0, false},
		{top, top, 0, 0, false},
	} {
		if got, ok := gwei.MulDiv(c.a, c.b, c.d); got != c.want || ok != c.ok {
			t.Errorf("MulDiv(%d, %d, %d) = %d, %v; want %d, %v", c.a, c.b, c.d, got, ok, c.want, c.ok)
		}
	}
}

// P1.3: the result is large enough, and the number before it is not.
func TestCeil(t *testing.T) {
	for _, a := range samples {
		for _, d := range samples {
			q, ok := gwei.Ceil(a, d)
			if d == 0 {
				if q != 0 || ok {
					t.Errorf("Ceil(%d, 0) = %d, %v; want 0, false", a, q, ok)
				}
				continue
			}
			product := new(big.Int).Mul(integer(q), integer(d))
			enough := product.Cmp(integer(a)) >= 0
			least := q == 0 || product.Sub(product, integer(d)).Cmp(integer(a)) < 0
			if !ok || !enough || !least {
				t.Errorf("Ceil(%d, %d) = %d, %v", a, d, q, ok)
			}
		}
	}
}

// P1.3: the example of the document and exact quotients.
func TestCeilCases(t *testing.T) {
	for _, c := range []struct{ a, d, want uint64 }{
		{7, 2, 4}, {0, 1, 0}, {0, top, 0}, {1, top, 1}, {6, 3, 2}, {7, 3, 3}, {8, 3, 3}, {9, 3, 3},
		{top, 1, top}, {top, 2, 1 << 63}, {top, top, 1}, {top, top - 1, 2}, {top - 1, top, 1},
	} {
		if got, ok := gwei.Ceil(c.a, c.d); got != c.want || !ok {
			t.Errorf("Ceil(%d, %d) = %d, %v; want %d, true", c.a, c.d, got, ok, c.want)
		}
	}
}

// P1.4
func TestSaturate(t *testing.T) {
	for _, l := range sequences() {
		before := slices.Clone(l)
		want, fits := word(total(l))
		if !fits {
			want = top
		}
		if got, over := gwei.Saturate(l...); got != want || over != !fits {
			t.Errorf("Saturate(%v) = %d, %v; want %d, %v", l, got, over, want, !fits)
		}
		if !slices.Equal(l, before) {
			t.Errorf("Saturate changed %v to %v", before, l)
		}
	}
}

// P1.4: a sum of exactly the greatest amount does not exceed it.
func TestSaturateLimit(t *testing.T) {
	for _, c := range []struct {
		l    []uint64
		want uint64
		over bool
	}{
		{nil, 0, false},
		{[]uint64{top}, top, false},
		{[]uint64{top - 1, 1}, top, false},
		{[]uint64{top, 0}, top, false},
		{[]uint64{top, 1}, top, true},
		{[]uint64{top, 1, 0}, top, true},
		{[]uint64{top, 1, top}, top, true},
	} {
		if got, over := gwei.Saturate(c.l...); got != c.want || over != c.over {
			t.Errorf("Saturate(%v) = %d, %v; want %d, %v", c.l, got, over, c.want, c.over)
		}
	}
}

// P1.5
func TestFormatAndParse(t *testing.T) {
	for _, a := range samples {
		s := integer(a).String()
		if got := gwei.Format(a); got != s {
			t.Errorf("Format(%d) = %q; want %q", a, got, s)
		}
		if got, ok := gwei.Parse(s); got != a || !ok {
			t.Errorf("Parse(%q) = %d, %v; want %d, true", s, got, ok, a)
		}
	}
	// Numbers of every length: a power of ten, and the number before it.
	for power, digits := uint64(10), 1; digits < 20; power, digits = power*10, digits+1 {
		if s := gwei.Format(power); s != "1"+strings.Repeat("0", digits) {
			t.Errorf("Format(%d) = %q", power, s)
		}
		if got, ok := gwei.Parse(strings.Repeat("9", digits)); got != power-1 || !ok {
			t.Errorf("Parse of %d nines = %d, %v; want %d, true", digits, got, ok, power-1)
		}
	}
}

// P1.5: no amount has any of these as its Format.
func TestParseInvalid(t *testing.T) {
	for _, s := range []string{
		"", "00", "01", "007", "00000000000000000000", "+1", "+0", "-1", "-0", " 1", "1 ", "1\n", "\t1", "\x00", "1\x00",
		"1_0", "0_1", "1,000", "1.0", "1.", ".1", "1e3", "0x10", "0b1", "0o7", "a", "0a", "\uff11", "\u0663", "\u22121", "\xff",
		"18446744073709551616", "18446744073709551620", "28446744073709551615", "99999999999999999999",
		"018446744073709551615", "184467440737095516150", "340282366920938463463374607431768211456",
	} {
		if got, ok := gwei.Parse(s); got != 0 || ok {
			t.Errorf("Parse(%q) = %d, %v; want 0, false", s, got, ok)
		}
	}
	for _, s := range []string{strings.Repeat("0", 1<<20), strings.Repeat("9", 1<<20), strings.Repeat("x", 1<<20)} {
		if got, ok := gwei.Parse(s); got != 0 || ok {
			t.Errorf("Parse of %d bytes = %d, %v; want 0, false", len(s), got, ok)
		}
	}
}

// P1.5: Parse accepts exactly the strings that Format writes.
func FuzzParse(f *testing.F) {
	for _, s := range []string{"0", "07", "+1", "18446744073709551615", "18446744073709551616", "1_0"} {
		f.Add(s)
	}
	f.Fuzz(func(t *testing.T, s string) {
		n, isNumber := new(big.Int).SetString(s, 10)
		want, wantOK := uint64(0), false
		if isNumber && n.IsUint64() && n.String() == s {
			want, wantOK = n.Uint64(), true
		}
		if got, ok := gwei.Parse(s); got != want || ok != wantOK {
			t.Errorf("Parse(%s) = %d, %v; want %d, %v", strconv.Quote(s), got, ok, want, wantOK)
		}
	})
}
