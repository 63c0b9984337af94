package script_test

import (
	"fmt"
	"math"
	"math/big"
	"math/rand"
	"regexp"
	"slices"
	"strconv"
	"strings"
	"sync"
	"testing"

	"egress/api"
	"egress/op"
	"egress/script"
)

const (
	kinds    = 7
	maxTicks = 1 << 20
)

// none is what Decode and Read return for malformed entries, and what Parse returns together with false.
var none = api.Op{Kind: api.Malformed}

// The lines of the kinds of chapter 19, in words, so that a wrong name or operand in the program is seen.
var table = map[int]string{
	api.Deposit:     "deposit Amount",
	api.Exit:        "exit Index",
	api.Eject:       "eject Index",
	api.Slash:       "slash Index",
	api.Consolidate: "consolidate Index Target",
	api.Partial:     "partial Index Amount",
	api.Tick:        "tick",
}

// valid is the specification of a valid operation.
func valid(o api.Op) bool {
	words := strings.Fields(table[o.Kind])
	index := o.Index == 0 || slices.Contains(words, "Index") && o.Index > 0 && o.Index < 65536
	target := o.Target == 0 || slices.Contains(words, "Target") && o.Target > 0 && o.Target < 65536
	amount := o.Amount == 0 || slices.Contains(words, "Amount")
	return len(words) > 0 && index && target && amount
}

// format is the specification of Format.
func format(o api.Op) string {
	if !valid(o) {
		return "malformed"
	}
	return strings.NewReplacer(
		"Index", fmt.Sprintf("%d", o.Index),
		"Target", fmt.Sprintf("%d", o.Target),
		"Amount", fmt.Sprintf("%d", o.Amount),
	).Replace(table[o.Kind])
}

// patterns are regular expressions for the lines of the kinds, except for the greatest numbers.
var patterns = func() map[int]*regexp.Regexp {
	const number = `(0|[1-9][0-9]*)`
	all := map[int]*regexp.Regexp{}
	for kind, line := range table {
		for _, name := range []string{"Index", "Target", "Amount"} {
			line = strings.Replace(line, name, "(?P<"+name+">"+number+")", 1)
		}
		all[kind] = regexp.MustCompile(`\A` + line + `\z`)
	}
	return all
}()

// parse is the specification of Parse.
func parse(line string) (api.Op, bool) {
	for kind, pattern := range patterns {
		found := pattern.FindStringSubmatch(line)
		if found == nil {
			continue
		}
		o := api.Op{Kind: kind}
		for i, name := range pattern.SubexpNames() {
			if name == "" {
				continue
			}
			n, _ := new(big.Int).SetString(found[i], 10)
			if !n.IsUint64() || name != "Amount" && n.Uint64() > 65535 {
				return none, false
			}
			switch name {
			case "Index":
				o.Index = int(n.Uint64())
			case "Target":
				o.Target = int(n.Uint64())
			case "Amount":
				o.Amount = n.Uint64()
			}
		}
		return o, true
	}
	return none, false
}

// read is the specification of Read, character by character.
func read(text string) []api.Op {
	var all []api.Op
	line := []byte{}
	for _, c := range []byte(text + "\n") {
		if c != '\n' {
			line = append(line, c)
			continue
		}
		if len(line) > 0 {
			o, _ := parse(string(line))
			all = append(all, o)
		}
		line = nil
	}
	return all
}

// decode is the specification of Decode: repeated calls of op.Decode.
func decode(b []byte) []api.Op {
	var all []api.Op
	for at := 0; at < len(b); {
		o, after, ok := op.Decode(b, at)
		if !ok || after <= at {
			panic(fmt.Sprint(b, at))
		}
		all, at = append(all, o), after
	}
	return all
}

// indices are on both sides of the limits of an index, and ints whose least bits look like one.
var indices = []int{
	0, 1, 2, 9, 10, 99, 100, 255, 256, 258, 999, 1000, 9999, 10000, 65534, 65535,
	65536, 65537, 99999, 1 << 20, math.MaxInt32, 1 << 32, 1<<32 + 5, 1 << 62, math.MaxInt - 1, math.MaxInt,
	-1, -2, -10, -65535, -65536, -1 << 32, math.MinInt + 1, math.MinInt,
}

// amounts are at the limits of words and of numbers of digits.
func amounts() []uint64 {
	all := []uint64{0, 1, 2, 32, 65535, 65536, 1<<32 - 1, 1 << 32, api.MaxAmount, math.MaxInt64, 1 << 63, 1<<63 + 1, math.MaxUint64 - 1, math.MaxUint64}
	for power := uint64(10); power < 1e19; power *= 10 {
		all = append(all, power-1, power, power+1)
	}
	return append(all, 1e19-1, 1e19, 1e19+1)
}

// operations calls visit with operations of each kind, and of some numbers that are none, with all combinations of the samples.
func operations(visit func(o api.Op)) {
	for _, kind := range append(otherKinds, 1, 2, 3, 4, 5, 6, 7) {
		for _, index := range indices {
			for _, target := range indices {
				for _, amount := range amounts() {
					visit(api.Op{Kind: kind, Index: index, Target: target, Amount: amount})
				}
			}
		}
	}
}

// otherKinds are numbers that are no kind of a valid operation; the least bits of some of them look like one.
var otherKinds = []int{0, -1, -7, 8, 9, 255, 256, 257, 1<<16 + 2, 1<<32 + 7, math.MaxInt, math.MinInt, math.MinInt + 1}

// samples are valid operations of each kind with different operands.
var samples = []api.Op{
	{Kind: api.Deposit}, {Kind: api.Deposit, Amount: 32}, {Kind: api.Deposit, Amount: math.MaxUint64},
	{Kind: api.Exit}, {Kind: api.Exit, Index: 3}, {Kind: api.Exit, Index: 65535},
	{Kind: api.Eject, Index: 20}, {Kind: api.Slash, Index: 305},
	{Kind: api.Consolidate, Index: 1, Target: 258}, {Kind: api.Consolidate, Index: 65535, Target: 0},
	{Kind: api.Partial, Index: 1, Amount: 9}, {Kind: api.Partial, Index: 0, Amount: 1 << 63},
	{Kind: api.Tick},
}

// lines are the lines of the samples.
var lines = []string{
	"deposit 0", "deposit 32", "deposit 18446744073709551615",
	"exit 0", "exit 3", "exit 65535",
	"eject 20", "slash 305",
	"consolidate 1 258", "consolidate 65535 0",
	"partial 1 9", "partial 0 9223372036854775808",
	"tick",
}

// encodings are the encodings of the samples.
var encodings = [][]byte{
	{1, 0, 0, 0, 0, 0, 0, 0, 0}, {1, 0, 0, 0, 0, 0, 0, 0, 32}, {1, 255, 255, 255, 255, 255, 255, 255, 255},
	{2, 0, 0}, {2, 0, 3}, {2, 255, 255},
	{3, 0, 20}, {4, 1, 49},
	{5, 0, 1, 1, 2}, {5, 255, 255, 0, 0},
	{6, 0, 1, 0, 0, 0, 0, 0, 0, 0, 9}, {6, 0, 0, 128, 0, 0, 0, 0, 0, 0, 0},
	{7},
}

func expectDecode(t *testing.T, b []byte, want ...api.Op) {
	t.Helper()
	if got := script.Decode(b); !slices.Equal(got, want) {
		t.Errorf("Decode(% x) = %+v; want %+v", b, got, want)
	}
}

func expectEncode(t *testing.T, want []byte, l ...api.Op) {
	t.Helper()
	if got, ok := script.Encode(l...); !slices.Equal(got, want) || !ok {
		t.Errorf("Encode(%+v) = % x, %v; want % x", l, got, ok, want)
	}
}

func expectNoEncoding(t *testing.T, l ...api.Op) {
	t.Helper()
	if got, ok := script.Encode(l...); len(got) != 0 || ok {
		t.Errorf("Encode(%+v) = % x, %v; want no bytes, false", l, got, ok)
	}
}

func expectFormat(t *testing.T, o api.Op, want string) {
	t.Helper()
	if got := script.Format(o); got != want {
		t.Errorf("Format(%+v) = %q; want %q", o, got, want)
	}
}

func expectParse(t *testing.T, line string, want api.Op) {
	t.Helper()
	if got, ok := script.Parse(line); got != want || !ok {
		t.Errorf("Parse(%q) = %+v, %v; want %+v", line, got, ok, want)
	}
}

func expectNoParse(t *testing.T, line string) {
	t.Helper()
	if got, ok := script.Parse(line); got != none || ok {
		t.Errorf("Parse(%.80q) = %+v, %v; want a zero Op, false", line, got, ok)
	}
}

// expectParseModel compares a call of Parse with the specification.
func expectParseModel(t *testing.T, line string) {
	t.Helper()
	if want, ok := parse(line); ok {
		expectParse(t, line, want)
	} else {
		expectNoParse(t, line)
	}
}

func expectRead(t *testing.T, text string, want ...api.Op) {
	t.Helper()
	if got := script.Read(text); !slices.Equal(got, want) {
		t.Errorf("Read(%q) = %+v; want %+v", text, got, want)
	}
}

// P20.1: no bytes are no operations.
func TestDecodeEmpty(t *testing.T) {
	expectDecode(t, nil)
	expectDecode(t, []byte{})
	expectDecode(t, []byte{7, 7}[:0])
}

// P20.1: single operations, and all of them in a script, in order.
func TestDecodeSamples(t *testing.T) {
	for i, b := range encodings {
		expectDecode(t, b, samples[i])
	}
	expectDecode(t, slices.Concat(encodings...), samples...)
	reversed, last := slices.Clone(encodings), slices.Clone(samples)
	slices.Reverse(reversed)
	slices.Reverse(last)
	expectDecode(t, slices.Concat(reversed...), last...)
	for i, a := range encodings {
		for j, b := range encodings {
			expectDecode(t, slices.Concat(a, b), samples[i], samples[j])
		}
	}
}

// P20.1: each byte that is no kind is an operation of its own, at any place.
func TestDecodeMalformed(t *testing.T) {
	tick, exit := api.Op{Kind: api.Tick}, api.Op{Kind: api.Exit, Index: 1}
	for value := range 256 {
		if value >= 1 && value <= kinds {
			continue
		}
		x := byte(value)
		expectDecode(t, []byte{x}, none)
		expectDecode(t, []byte{x, x, x}, none, none, none)
		expectDecode(t, []byte{x, 7, 7}, none, tick, tick)
		expectDecode(t, []byte{7, x, 7}, tick, none, tick)
		expectDecode(t, []byte{7, 7, x}, tick, tick, none)
		expectDecode(t, []byte{x, 2, 0, 1, x, x, 2, 0, 1, x}, none, exit, none, none, exit, none)
	}
}

// P20.1: an operation that lacks operand bytes at the end is one Malformed operation, whatever bytes it has.
func TestDecodeTooShort(t *testing.T) {
	for i, b := range encodings {
		for length := 1; length < len(b); length++ {
			expectDecode(t, b[:length], none)
			expectDecode(t, slices.Concat([]byte{7, 0}, b, b[:length]), api.Op{Kind: api.Tick}, none, samples[i], none)
		}
	}
	expectDecode(t, []byte{7, 2, 7}, api.Op{Kind: api.Tick}, none)
	expectDecode(t, []byte{6, 7, 7, 7, 7, 7, 7, 7, 7, 7}, none)
}

// P20.1: all short sequences of bytes that are a kind or at the limits of one.
func TestDecodeSequences(t *testing.T) {
	var extend func(b []byte)
	extend = func(b []byte) {
		expectDecode(t, b, decode(b)...)
		if len(b) == 5 {
			return
		}
		for _, value := range []byte{0, 1, 2, 5, 6, 7, 8} {
			extend(append(slices.Clone(b), value))
		}
	}
	extend(nil)
}

// P20.1: random bytes, many of which are kinds.
func TestDecodeRandom(t *testing.T) {
	random := rand.New(rand.NewSource(20))
	for range 5000 {
		b := make([]byte, random.Intn(100))
		for i := range b {
			b[i] = byte(random.Intn(256))
			if random.Intn(3) > 0 {
				b[i] = byte(random.Intn(kinds + 2))
			}
		}
		expectDecode(t, b, decode(b)...)
	}
}

// P20.1: long scripts are read to their end.
func TestDecodeLong(t *testing.T) {
	const n = 1 << 16
	for i, o := range samples {
		l := script.Decode(append(slices.Repeat(encodings[i], n), 0))
		if len(l) != n+1 || l[0] != o || l[n-1] != o || l[n] != none || script.Count(l, o.Kind) != n {
			t.Errorf("a script of %d operations %+v has %d", n, o, len(l))
		}
	}
}

// Rule 4: bytes beyond the length of a slice are not read, and those within it are not modified.
func TestDecodeWithinLength(t *testing.T) {
	memory := []byte{7, 2, 0, 3, 7, 6, 1, 2, 3, 4, 5, 6, 7, 8, 9, 10, 11, 12}
	before := slices.Clone(memory)
	for length := range memory {
		expectDecode(t, memory[:length], decode(slices.Clone(before[:length]))...)
	}
	if !slices.Equal(memory, before) {
		t.Errorf("% x; want % x", memory, before)
	}
}

// P20.1: no operations are encoded as no bytes.
func TestEncodeEmpty(t *testing.T) {
	expectEncode(t, nil)
	expectEncode(t, nil, []api.Op{}...)
	expectEncode(t, nil, samples[:0]...)
}

// P20.1: single operations, pairs, and all of them, in order.
func TestEncodeSamples(t *testing.T) {
	for i, a := range samples {
		expectEncode(t, encodings[i], a)
		for j, b := range samples {
			expectEncode(t, slices.Concat(encodings[i], encodings[j]), a, b)
		}
	}
	expectEncode(t, slices.Concat(encodings...), samples...)
}

// invalid are operations that are not valid.
func invalid() []api.Op {
	all := []api.Op{
		{Kind: api.Tick, Index: 1}, {Kind: api.Tick, Target: -1}, {Kind: api.Tick, Amount: 1},
		{Kind: api.Deposit, Index: 1, Amount: 5}, {Kind: api.Deposit, Target: 1, Amount: 5},
		{Kind: api.Exit, Index: -1}, {Kind: api.Exit, Index: 65536}, {Kind: api.Exit, Index: 1, Target: 1}, {Kind: api.Exit, Index: 1, Amount: 1},
		{Kind: api.Eject, Index: math.MinInt}, {Kind: api.Eject, Index: math.MaxInt}, {Kind: api.Slash, Index: 1 << 32},
		{Kind: api.Consolidate, Index: 65536, Target: 1}, {Kind: api.Consolidate, Index: 1, Target: 65536},
		{Kind: api.Consolidate, Index: -1, Target: 1}, {Kind: api.Consolidate, Index: 1, Target: -1}, {Kind: api.Consolidate, Index: 1, Target: 2, Amount: 3},
		{Kind: api.Partial, Index: 65536, Amount: 1}, {Kind: api.Partial, Index: -1, Amount: 1}, {Kind: api.Partial, Index: 1, Target: 1, Amount: 1},
	}
	for _, kind := range otherKinds {
		all = append(all, api.Op{Kind: kind}, api.Op{Kind: kind, Index: 1}, api.Op{Kind: kind, Index: 1, Target: 2, Amount: 3})
	}
	return all
}

// P20.1: an operation that is not valid, at any place.
func TestEncodeInvalid(t *testing.T) {
	tick := api.Op{Kind: api.Tick}
	for _, o := range invalid() {
		expectNoEncoding(t, o)
		expectNoEncoding(t, o, tick)
		expectNoEncoding(t, tick, o)
		expectNoEncoding(t, tick, o, tick)
		expectNoEncoding(t, o, o)
		for place := range len(samples) + 1 {
			expectNoEncoding(t, slices.Insert(slices.Clone(samples), place, o)...)
		}
	}
}

// Rule 4: results share no memory, even beyond their length, and the operations are not modified.
func TestEncodeSharesNoMemory(t *testing.T) {
	before := slices.Clone(samples)
	for length := range len(samples) + 1 {
		want := slices.Concat(encodings[:length]...)
		first, _ := script.Encode(samples[:length]...)
		second, _ := script.Encode(samples[:length]...)
		for i := range first[:cap(first)] {
			first[:cap(first)][i] = 0xaa
		}
		if !slices.Equal(second, want) {
			t.Errorf("% x after a change of another result; want % x", second, want)
		}
		expectEncode(t, want, samples[:length]...)
	}
	if !slices.Equal(samples, before) {
		t.Errorf("%+v; want %+v", samples, before)
	}
}

// P20.1: a long script.
func TestEncodeLong(t *testing.T) {
	const n = 1 << 16
	for i, o := range samples {
		expectEncode(t, slices.Repeat(encodings[i], n), slices.Repeat([]api.Op{o}, n)...)
	}
}

// P20.2: the lines of the samples, in both directions.
func TestLines(t *testing.T) {
	for i, o := range samples {
		expectFormat(t, o, lines[i])
		expectParse(t, lines[i], o)
	}
}

// P20.2: operations without a line.
func TestFormatInvalid(t *testing.T) {
	for _, o := range invalid() {
		expectFormat(t, o, "malformed")
	}
	expectNoParse(t, "malformed")
}

// P20.2 and P20.5: all combinations of samples of each field; each valid operation has a line of its own, which Parse inverts.
func TestCombinations(t *testing.T) {
	seen := map[string]api.Op{}
	operations(func(o api.Op) {
		line := format(o)
		expectFormat(t, o, line)
		if !valid(o) {
			return
		}
		expectParse(t, line, o)
		if other, twice := seen[line]; twice && other != o {
			t.Errorf("%+v and %+v have the line %q", o, other, line)
		}
		seen[line] = o
	})
	if len(seen) < 1000 {
		t.Errorf("only %d operations are valid", len(seen))
	}
}

// P20.2: each index as each operand that is one, and numbers beyond.
func TestAllIndices(t *testing.T) {
	for n := -300; n <= 65535+300; n++ {
		digits := strconv.Itoa(n)
		for line, o := range map[string]api.Op{
			"exit " + digits:               {Kind: api.Exit, Index: n},
			"eject " + digits:              {Kind: api.Eject, Index: n},
			"slash " + digits:              {Kind: api.Slash, Index: n},
			"consolidate " + digits + " 1": {Kind: api.Consolidate, Index: n, Target: 1},
			"consolidate 1 " + digits:      {Kind: api.Consolidate, Index: 1, Target: n},
			"partial " + digits + " 7":     {Kind: api.Partial, Index: n, Amount: 7},
		} {
			if n < 0 || n > 65535 {
				expectFormat(t, o, "malformed")
				expectNoParse(t, line)
				continue
			}
			expectFormat(t, o, line)
			expectParse(t, line, o)
		}
	}
}

// P20.2: numbers that no operand has, in the place of each one.
func TestParseNumbers(t *testing.T) {
	numbers := []string{
		"", "00", "01", "007", "+1", "-1", "-0", "1.0", "1e3", "0x1", "1_0", "1,0", "a", "1a", "a1", "\u0661", "\uff11", "\x001", "1\x00",
		"18446744073709551616", "18446744073709551617", "18446744073709551621", "99999999999999999999", "184467440737095516160", "340282366920938463463374607431768211457",
		strings.Repeat("9", 1000), "Index", "tick", "malformed", "\xff",
	}
	tooLarge := []string{"65536", "65537", "131072", "99999", "4294967296", "4294967297", "9223372036854775807", "9223372036854775808", "18446744073709551615"}
	for _, n := range numbers {
		expectNoParse(t, "deposit "+n)
		expectNoParse(t, "partial 1 "+n)
	}
	for _, n := range append(numbers, tooLarge...) {
		expectNoParse(t, "exit "+n)
		expectNoParse(t, "eject "+n)
		expectNoParse(t, "slash "+n)
		expectNoParse(t, "consolidate "+n+" 1")
		expectNoParse(t, "consolidate 1 "+n)
		expectNoParse(t, "consolidate "+n+" "+n)
		expectNoParse(t, "partial "+n+" 1")
	}
}

// P20.2: words that are missing or too many, and kinds that are none.
func TestParseWords(t *testing.T) {
	for kind, line := range table {
		words := strings.Fields(line)
		for n := range 6 {
			text := words[0] + strings.Repeat(" 1", n)
			if n+1 == len(words) {
				o, _ := parse(text)
				if o.Kind != kind {
					t.Fatal(text, o)
				}
				expectParse(t, text, o)
			} else {
				expectNoParse(t, text)
			}
		}
	}
	for _, name := range []string{"", "0", "1", "5", "fly", "malformed", "Tick", "TICK", "ticks", "tic", "deposits", "depos", "withdraw", "merge", "exiting", "\u0442ick"} {
		for _, rest := range []string{"", " ", " 1", " 1 1", " 0"} {
			expectNoParse(t, name+rest)
		}
	}
}

// P20.2: separators other than a single space, and characters around a line.
func TestParseSeparators(t *testing.T) {
	for _, line := range lines {
		for _, space := range []string{" ", "  ", "\t", "\n", "\r", "\v", "\f", "\x00", "\u00a0", "\u0085", "\u2003", "\ufeff", ",", ";", "0", "#"} {
			if strings.Contains(line, " ") && space != " " {
				expectNoParse(t, strings.ReplaceAll(line, " ", space))
				expectNoParse(t, strings.Replace(line, " ", space, 1))
				expectNoParse(t, strings.Replace(line, " ", " "+space, 1))
				expectNoParse(t, strings.Replace(line, " ", space+" ", 1))
			}
			if space != "0" {
				expectNoParse(t, line+space)
			}
			expectNoParse(t, space+line)
		}
		expectNoParse(t, line+" "+line)
		expectNoParse(t, line+"\n"+line)
		if strings.Contains(line, " ") {
			expectNoParse(t, strings.ReplaceAll(line, " ", ""))
			expectNoParse(t, strings.ReplaceAll(line, " ", "  "))
		}
	}
	expectNoParse(t, " ")
	expectNoParse(t, "\n")
}

// P20.2: each line with one character removed, replaced or inserted, at each place.
func TestParseChangedLines(t *testing.T) {
	characters := []string{" ", "0", "1", "5", "9", "-", "+", "t", "x", "T", "\t", "\n", "\x00", "\xff", "\u00e9"}
	for _, line := range lines {
		for i := range len(line) + 1 {
			for _, c := range characters {
				expectParseModel(t, line[:i]+c+line[i:])
				if i < len(line) {
					expectParseModel(t, line[:i]+c+line[i+1:])
				}
			}
			expectParseModel(t, line[:i])
			expectParseModel(t, line[i:])
			if i < len(line) {
				expectParseModel(t, line[:i]+line[i+1:])
			}
		}
	}
}

// P20.2: all short sequences of words, separators included.
func TestParseSequences(t *testing.T) {
	words := []string{" ", "tick", "exit", "deposit", "consolidate", "partial", "0", "1", "70000"}
	var extend func(line string, n int)
	extend = func(line string, n int) {
		expectParseModel(t, line)
		if n == 5 {
			return
		}
		for _, w := range words {
			extend(line+w, n+1)
		}
	}
	extend("", 0)
}

// P20.2: very long lines.
func TestParseLong(t *testing.T) {
	for _, part := range []string{" ", "0", "1", "9", " 1", "tick", "tick ", "\x00", "x"} {
		long := strings.Repeat(part, 1<<20)
		expectNoParse(t, long)
		for _, line := range lines {
			expectNoParse(t, line+" "+long)
			expectNoParse(t, line+long)
			expectNoParse(t, long+line)
		}
	}
}

// P20.3: the number of ticks is limited on both sides.
func TestTicks(t *testing.T) {
	for n, want := range map[int]int{
		math.MinInt: 0, math.MinInt + 1: 0, -1 << 32: 0, -maxTicks: 0, -2: 0, -1: 0, 0: 0, 1: 1, 2: 2, 3: 3, 1000: 1000, 1 << 16: 1 << 16,
		maxTicks - 1: maxTicks - 1, maxTicks: maxTicks, maxTicks + 1: maxTicks, 2 * maxTicks: maxTicks, 1 << 32: maxTicks, 1<<32 + 1: maxTicks, 1 << 62: maxTicks, math.MaxInt - 1: maxTicks, math.MaxInt: maxTicks,
	} {
		l := script.Ticks(n)
		if len(l) != want {
			t.Errorf("Ticks(%d) has %d operations; want %d", n, len(l), want)
		}
		for i, o := range l {
			if (o != api.Op{Kind: api.Tick}) {
				t.Fatalf("Ticks(%d)[%d] = %+v", n, i, o)
			}
		}
	}
}

// Rule 4: results of Ticks share no memory.
func TestTicksShareNoMemory(t *testing.T) {
	for _, n := range []int{1, 5, maxTicks} {
		first, second := script.Ticks(n), script.Ticks(n)
		first[0], first[n-1] = none, none
		tick := api.Op{Kind: api.Tick}
		if second[0] != tick || second[n-1] != tick || script.Ticks(n)[0] != tick {
			t.Errorf("a change of one result of Ticks(%d) changed another one", n)
		}
	}
}

// P20.3: all operations with a kind are counted, valid or not, whatever their other fields are.
func TestCount(t *testing.T) {
	for kind, want := range map[int]int{0: 0, api.Deposit: 3, api.Exit: 3, api.Eject: 1, api.Slash: 1, api.Consolidate: 2, api.Partial: 2, api.Tick: 1, 8: 0, -1: 0, math.MaxInt: 0, math.MinInt: 0} {
		if got := script.Count(samples, kind); got != want {
			t.Errorf("Count(.., %d) = %d; want %d", kind, got, want)
		}
		if script.Count(nil, kind) != 0 || script.Count([]api.Op{}, kind) != 0 {
			t.Errorf("Count of no operations with the kind %d is not 0", kind)
		}
	}
	all := append(otherKinds, 1, 2, 3, 4, 5, 6, 7)
	var l []api.Op
	for i, kind := range all {
		for n := range i + 1 {
			l = append(l, api.Op{Kind: kind, Index: -n, Target: kind, Amount: uint64(n)})
		}
	}
	rand.New(rand.NewSource(20)).Shuffle(len(l), func(i, j int) { l[i], l[j] = l[j], l[i] })
	before := slices.Clone(l)
	for i, kind := range all {
		if got := script.Count(l, kind); got != i+1 {
			t.Errorf("Count(.., %d) = %d; want %d", kind, got, i+1)
		}
	}
	if !slices.Equal(l, before) {
		t.Error("Count changed the operations")
	}
	if got := script.Count(l[:1], l[1].Kind); l[0].Kind != l[1].Kind && got != 0 {
		t.Errorf("Count read an operation beyond the length")
	}
}

// P20.4: the example of the chapter.
func TestExample(t *testing.T) {
	expectRead(t, "deposit 32\ntick\nexit 0\nfly", api.Op{Kind: api.Deposit, Amount: 32}, api.Op{Kind: api.Tick}, api.Op{Kind: api.Exit}, none)
}

// P20.4: all samples, in order.
func TestReadSamples(t *testing.T) {
	expectRead(t, strings.Join(lines, "\n"), samples...)
	expectRead(t, strings.Join(lines, "\n")+"\n", samples...)
	expectRead(t, "\n\n"+strings.Join(lines, "\n\n\n")+"\n\n", samples...)
	for i, a := range lines {
		expectRead(t, a, samples[i])
		for j, b := range lines {
			expectRead(t, a+"\n"+b, samples[i], samples[j])
			expectRead(t, a+" "+b, none)
		}
	}
}

// P20.4: only lines without any character yield no operation.
func TestReadEmptyLines(t *testing.T) {
	tick := api.Op{Kind: api.Tick}
	for _, text := range []string{"", "\n", "\n\n", strings.Repeat("\n", 1000)} {
		expectRead(t, text)
		expectRead(t, text+"tick", tick)
		expectRead(t, "tick\n"+text, tick)
		expectRead(t, text+"tick\n"+text+"tick\n"+text, tick, tick)
	}
	for _, line := range []string{" ", "\t", "\r", "\x00", "\v", "\f", "\u0085", "\u2028", "\ufeff"} {
		expectRead(t, line, none)
		expectRead(t, line+"\n", none)
		expectRead(t, "\n"+line+"\n\n"+line, none, none)
		expectRead(t, "tick\n"+line+"\ntick", tick, none, tick)
	}
}

// P20.4: only line feeds separate lines.
func TestReadSeparators(t *testing.T) {
	tick := api.Op{Kind: api.Tick}
	for _, separator := range []string{"\r", "\x00", "\v", "\f", "\x1e", "\u0085", "\u2028", "\u2029", ";", "\\n", " "} {
		expectRead(t, "tick"+separator+"tick", none)
		expectRead(t, "tick"+separator, none)
		expectRead(t, separator+"tick", none)
	}
	expectRead(t, "tick\r\ntick\r\ntick", none, none, tick)
	expectRead(t, "tick\n\rtick\ntick", tick, none, tick)
}

// P20.4: a line without an operation is Malformed with zero fields, even if parts of it could be read.
func TestReadMalformed(t *testing.T) {
	for _, line := range []string{"malformed", "fly", "exit", "exit 65536", "exit 3 4", "exit 03", "consolidate 5", "consolidate 5 70000", "partial 5", "partial 70000 5", "partial 5 x", "deposit", "deposit 18446744073709551616", "tick 5", "Tick"} {
		expectRead(t, line, none)
		expectRead(t, "exit 7\n"+line+"\nexit 8", api.Op{Kind: api.Exit, Index: 7}, none, api.Op{Kind: api.Exit, Index: 8})
	}
}

// P20.4: random texts of lines, parts of lines and other characters.
func TestReadRandom(t *testing.T) {
	random := rand.New(rand.NewSource(20))
	parts := append(slices.Clone(lines), "\n", "\n", "\n\n", " ", "\r\n", "exit ", "0", "1", "fly", "malformed", "\x00", "\xff")
	for range 20000 {
		var text strings.Builder
		for range random.Intn(12) {
			text.WriteString(parts[random.Intn(len(parts))])
			if random.Intn(3) > 0 {
				text.WriteByte('\n')
			}
		}
		expectRead(t, text.String(), read(text.String())...)
	}
}

// P20.4: long texts are read to their end.
func TestReadLong(t *testing.T) {
	const n = 1 << 16
	for i, line := range lines {
		l := script.Read(strings.Repeat(line+"\n", n) + "x")
		if len(l) != n+1 || l[0] != samples[i] || l[n-1] != samples[i] || l[n] != none {
			t.Errorf("a text of %d lines %q has %d operations", n, line, len(l))
		}
	}
}

// Rule 4: the operations of two results share no memory.
func TestReadSharesNoMemory(t *testing.T) {
	text := strings.Join(lines, "\n")
	b := slices.Concat(encodings...)
	for _, results := range [][2][]api.Op{{script.Read(text), script.Read(text)}, {script.Decode(b), script.Decode(b)}} {
		for i := range results[0] {
			results[0][i] = none
		}
		if !slices.Equal(results[1], samples) {
			t.Errorf("%+v after a change of another result", results[1])
		}
	}
	expectRead(t, text, samples...)
	expectDecode(t, b, samples...)
}

// P20.5: random valid operations, as bytes and as lines.
func TestInverse(t *testing.T) {
	random := rand.New(rand.NewSource(205))
	number := func() uint64 { return random.Uint64() >> random.Intn(64) }
	for range 2000 {
		var l []api.Op
		for range random.Intn(30) {
			o := samples[random.Intn(len(samples))]
			switch o.Kind {
			case api.Deposit:
				o.Amount = number()
			case api.Exit, api.Eject, api.Slash:
				o.Index = int(number() % 65536)
			case api.Consolidate:
				o.Index, o.Target = int(number()%65536), int(number()%65536)
			case api.Partial:
				o.Index, o.Amount = int(number()%65536), number()
			}
			l = append(l, o)
			expectParse(t, script.Format(o), o)
		}
		b, ok := script.Encode(l...)
		if !ok {
			t.Fatalf("Encode(%+v) = false", l)
		}
		expectDecode(t, b, l...)
		text := ""
		for _, o := range l {
			text += script.Format(o) + "\n"
		}
		expectRead(t, text, l...)
	}
}

// P20.5: each decoded operation is valid, with a line that Parse inverts and an encoding, or Malformed.
func TestDecodedOperations(t *testing.T) {
	random := rand.New(rand.NewSource(520))
	for range 1000 {
		b := make([]byte, random.Intn(60))
		for i := range b {
			b[i] = byte(random.Intn(256) >> random.Intn(8))
		}
		for _, o := range script.Decode(b) {
			if o == none {
				expectFormat(t, o, "malformed")
				expectNoEncoding(t, o)
				continue
			}
			expectFormat(t, o, format(o))
			expectParse(t, format(o), o)
			e, _ := script.Encode(o)
			expectDecode(t, e, o)
		}
	}
}

// P20.2: Parse accepts exactly the lines of valid operations.
func FuzzParse(f *testing.F) {
	for _, line := range append(slices.Clone(lines), "exit 65536", "exit 00", "tick ", "partial 1  2", "malformed", "") {
		f.Add(line)
	}
	f.Fuzz(func(t *testing.T, line string) {
		expectParseModel(t, line)
		expectRead(t, line, read(line)...)
	})
}

// Rule 6: the functions may be called concurrently.
func TestConcurrentCalls(t *testing.T) {
	var all sync.WaitGroup
	text, b := strings.Join(lines, "\n"), slices.Concat(encodings...)
	for range 8 {
		all.Go(func() {
			for range 200 {
				expectRead(t, text, samples...)
				expectDecode(t, b, samples...)
				expectEncode(t, b, samples...)
				if l := script.Ticks(5); script.Count(l, api.Tick) != 5 {
					t.Errorf("Ticks(5) = %+v", l)
				}
			}
		})
	}
	all.Wait()
}
