package op_test

import (
	"encoding/hex"
	"fmt"
	"math"
	"math/rand"
	"slices"
	"strings"
	"sync"
	"testing"

	"egress/api"
	"egress/op"
)

const (
	kinds   = 7
	longest = 11 // bytes of an encoding
)

// The table of the chapter, in words, so that a wrong number in the package is seen: number, name, bytes, operands.
const table = `1 deposit 9 Amount
	2 exit 3 Index
	3 eject 3 Index
	4 slash 3 Index
	5 consolidate 5 Index Target
	6 partial 11 Index Amount
	7 tick 1`

// row is a line of the table.
type row struct {
	kind     int
	name     string
	size     int
	operands []string
}

// find returns the row for a kind.
func find(kind int) (row, bool) {
	for _, line := range strings.Split(table, "\n") {
		words := strings.Fields(line)
		r := row{operands: words[3:], name: words[1]}
		fmt.Sscan(words[0], &r.kind)
		fmt.Sscan(words[2], &r.size)
		if r.kind == kind {
			return r, true
		}
	}
	return row{}, false
}

// valid is the specification of Valid.
func valid(o api.Op) bool {
	r, ok := find(o.Kind)
	if !ok {
		return false
	}
	has := func(name string) bool { return slices.Contains(r.operands, name) }
	index := o.Index == 0 || has("Index") && o.Index >= 0 && o.Index <= 65535
	target := o.Target == 0 || has("Target") && o.Target >= 0 && o.Target <= 65535
	amount := o.Amount == 0 || has("Amount")
	return index && target && amount
}

// encoding is the specification of Encode for a valid operation, written in hexadecimal digits first.
func encoding(o api.Op) []byte {
	r, _ := find(o.Kind)
	digits := fmt.Sprintf("%02x", o.Kind)
	for _, name := range r.operands {
		switch name {
		case "Index":
			digits += fmt.Sprintf("%04x", o.Index)
		case "Target":
			digits += fmt.Sprintf("%04x", o.Target)
		case "Amount":
			digits += fmt.Sprintf("%016x", o.Amount)
		}
	}
	b, err := hex.DecodeString(digits)
	if err != nil || len(b) != r.size {
		panic(digits)
	}
	return b
}

// decoding is the specification of Decode.
func decoding(b []byte, at int) (api.Op, int, bool) {
	if at < 0 || at >= len(b) {
		return api.Op{}, 0, false
	}
	r, ok := find(int(b[at]))
	if !ok {
		return api.Op{Kind: api.Malformed}, at + 1, true
	}
	if at+r.size > len(b) {
		return api.Op{Kind: api.Malformed}, len(b), true
	}
	o := api.Op{Kind: r.kind}
	digits := hex.EncodeToString(b[at+1 : at+r.size])
	for _, name := range r.operands {
		switch name {
		case "Index":
			fmt.Sscanf(digits[:4], "%x", &o.Index)
			digits = digits[4:]
		case "Target":
			fmt.Sscanf(digits[:4], "%x", &o.Target)
			digits = digits[4:]
		case "Amount":
			fmt.Sscanf(digits[:16], "%x", &o.Amount)
			digits = digits[16:]
		}
	}
	return o, at + r.size, true
}

// numbers are all kinds, and numbers that are none; among these are some whose least bits look like one.
func numbers() []int {
	all := []int{math.MinInt, math.MinInt + 1, math.MinInt32, -1 << 16, -1 << 8, math.MaxInt32, math.MaxInt - 1, math.MaxInt, 1<<8 + 1, 1<<16 + 2, 1<<32 + 3, 1<<32 + 7, 1<<62 + 4, -1<<63 + 5}
	for n := -20; n <= 300; n++ {
		all = append(all, n)
	}
	return all
}

// indices are both sides of the limits of an index, with bytes that differ, and ints whose least bits look like an index.
var indices = []int{
	0, 1, 2, 127, 128, 254, 255, 256, 257, 258, 0x1234, 0x7fff, 0x8000, 0x8001, 0xfeff, 0xff00, 0xfffe, 65535,
	65536, 65537, 1 << 20, math.MaxInt32, 1 << 32, 1<<32 + 5, 1 << 48, 1 << 62, math.MaxInt - 1, math.MaxInt,
	-1, -2, -255, -256, -65535, -65536, -65537, -1 << 32, math.MinInt + 1, math.MinInt, math.MinInt + 65536,
}

// amounts are at the limits of words of each number of bytes, with bytes that differ.
func amounts() []uint64 {
	all := []uint64{0, 0x0102030405060708, 0xfffefdfcfbfaf9f8, 32, api.MaxAmount, api.MaxAmount + 1, math.MaxInt64, 1 << 63, math.MaxUint64 - 1, math.MaxUint64}
	for bits := 0; bits < 64; bits += 8 {
		all = append(all, 1<<bits-1, 1<<bits, 1<<bits+1, 0x80<<bits)
	}
	return all
}

// operations calls visit with operations of a kind that have all combinations of the samples.
func operations(kind int, visit func(o api.Op)) {
	for _, index := range indices {
		for _, target := range indices {
			for _, amount := range amounts() {
				visit(api.Op{Kind: kind, Index: index, Target: target, Amount: amount})
			}
		}
	}
}

func expectValid(t *testing.T, o api.Op, want bool) {
	t.Helper()
	if got := op.Valid(o); got != want {
		t.Errorf("Valid(%+v) = %v", o, got)
	}
	b, ok := op.Encode(o)
	if ok != want {
		t.Errorf("Encode(%+v) = %v, %v", o, b, ok)
	}
	if !want && len(b) != 0 {
		t.Errorf("Encode(%+v) = %v; want no bytes", o, b)
	}
}

func expectEncode(t *testing.T, o api.Op, want ...byte) {
	t.Helper()
	expectValid(t, o, true)
	if got, ok := op.Encode(o); !slices.Equal(got, want) || !ok {
		t.Errorf("Encode(%+v) = % x, %v; want % x", o, got, ok, want)
	}
}

func expectDecode(t *testing.T, b []byte, at int, want api.Op, after int, has bool) {
	t.Helper()
	if got, next, ok := op.Decode(b, at); got != want || next != after || ok != has {
		t.Errorf("Decode(% x, %d) = %+v, %d, %v; want %+v, %d, %v", b, at, got, next, ok, want, after, has)
	}
}

// expectModel compares a call of Decode with the specification.
func expectModel(t *testing.T, b []byte, at int) {
	t.Helper()
	want, after, has := decoding(b, at)
	expectDecode(t, b, at, want, after, has)
}

// P19.1: an operation of each kind, written byte by byte.
func TestEncodeRows(t *testing.T) {
	expectEncode(t, api.Op{Kind: api.Deposit, Amount: 0x0102030405060708}, 1, 1, 2, 3, 4, 5, 6, 7, 8)
	expectEncode(t, api.Op{Kind: api.Exit, Index: 0x1234}, 2, 0x12, 0x34)
	expectEncode(t, api.Op{Kind: api.Eject, Index: 5}, 3, 0, 5)
	expectEncode(t, api.Op{Kind: api.Slash, Index: 0xff00}, 4, 0xff, 0)
	expectEncode(t, api.Op{Kind: api.Consolidate, Index: 0x1234, Target: 0x5678}, 5, 0x12, 0x34, 0x56, 0x78)
	expectEncode(t, api.Op{Kind: api.Partial, Index: 0x1234, Amount: 0xfffefdfcfbfaf9f8}, 6, 0x12, 0x34, 0xff, 0xfe, 0xfd, 0xfc, 0xfb, 0xfa, 0xf9, 0xf8)
	expectEncode(t, api.Op{Kind: api.Tick}, 7)
}

// P19.1: the example of the chapter.
func TestExample(t *testing.T) {
	o := api.Op{Kind: api.Consolidate, Index: 1, Target: 258}
	b := []byte{5, 0, 1, 1, 2}
	expectEncode(t, o, b...)
	expectDecode(t, b, 0, o, 5, true)
}

// P19.1: the least and the greatest operands.
func TestEncodeLimits(t *testing.T) {
	expectEncode(t, api.Op{Kind: api.Deposit}, 1, 0, 0, 0, 0, 0, 0, 0, 0)
	expectEncode(t, api.Op{Kind: api.Deposit, Amount: math.MaxUint64}, 1, 255, 255, 255, 255, 255, 255, 255, 255)
	expectEncode(t, api.Op{Kind: api.Consolidate}, 5, 0, 0, 0, 0)
	expectEncode(t, api.Op{Kind: api.Consolidate, Index: 65535, Target: 65535}, 5, 255, 255, 255, 255)
	// An operation that the engine rejects may be valid: here source and target are the same validator.
	expectEncode(t, api.Op{Kind: api.Consolidate, Index: 7, Target: 7}, 5, 0, 7, 0, 7)
	expectEncode(t, api.Op{Kind: api.Partial}, 6, 0, 0, 0, 0, 0, 0, 0, 0, 0, 0)
	expectEncode(t, api.Op{Kind: api.Partial, Index: 65535, Amount: math.MaxUint64}, 6, 255, 255, 255, 255, 255, 255, 255, 255, 255, 255)
	for _, kind := range []int{api.Exit, api.Eject, api.Slash} {
		expectEncode(t, api.Op{Kind: kind}, byte(kind), 0, 0)
		expectEncode(t, api.Op{Kind: kind, Index: 65535}, byte(kind), 255, 255)
		expectValid(t, api.Op{Kind: kind, Index: 65536}, false)
		expectValid(t, api.Op{Kind: kind, Index: -1}, false)
	}
	for _, index := range []int{-1, 65536, math.MinInt, math.MaxInt} {
		expectValid(t, api.Op{Kind: api.Consolidate, Index: index, Target: 1}, false)
		expectValid(t, api.Op{Kind: api.Consolidate, Index: 1, Target: index}, false)
		expectValid(t, api.Op{Kind: api.Partial, Index: index, Amount: 1}, false)
	}
}

// P19.1: a field that is not an operand must be 0, even if it could be one of another kind.
func TestOtherFields(t *testing.T) {
	for kind := 1; kind <= kinds; kind++ {
		r, _ := find(kind)
		expectValid(t, api.Op{Kind: kind}, true)
		expectValid(t, api.Op{Kind: kind, Index: 1}, slices.Contains(r.operands, "Index"))
		expectValid(t, api.Op{Kind: kind, Target: 1}, slices.Contains(r.operands, "Target"))
		expectValid(t, api.Op{Kind: kind, Amount: 1}, slices.Contains(r.operands, "Amount"))
		expectValid(t, api.Op{Kind: kind, Index: 1, Target: 1, Amount: 1}, false)
	}
}

// P19.1: all combinations of sample operands for each kind.
func TestCombinations(t *testing.T) {
	for kind := 1; kind <= kinds; kind++ {
		operations(kind, func(o api.Op) {
			if want := valid(o); !want {
				expectValid(t, o, false)
			} else {
				expectEncode(t, o, encoding(o)...)
			}
		})
	}
}

// P19.1: each index, as each operand that is one.
func TestAllIndices(t *testing.T) {
	for n := -300; n <= 65535+300; n++ {
		want := n >= 0 && n <= 65535
		high, low := byte(n/256), byte(n%256)
		for _, x := range []struct {
			o api.Op
			b []byte
		}{
			{api.Op{Kind: api.Exit, Index: n}, []byte{2, high, low}},
			{api.Op{Kind: api.Eject, Index: n}, []byte{3, high, low}},
			{api.Op{Kind: api.Slash, Index: n}, []byte{4, high, low}},
			{api.Op{Kind: api.Consolidate, Index: n, Target: 258}, []byte{5, high, low, 1, 2}},
			{api.Op{Kind: api.Consolidate, Index: 258, Target: n}, []byte{5, 1, 2, high, low}},
			{api.Op{Kind: api.Partial, Index: n, Amount: 9}, []byte{6, high, low, 0, 0, 0, 0, 0, 0, 0, 9}},
		} {
			if !want {
				expectValid(t, x.o, false)
				continue
			}
			expectEncode(t, x.o, x.b...)
			expectDecode(t, x.b, 0, x.o, len(x.b), true)
		}
	}
}

// P19.1: an operation whose Kind is not in the table is not valid, Malformed ones included.
func TestOtherKinds(t *testing.T) {
	expectValid(t, api.Op{Kind: api.Malformed}, false)
	for _, kind := range numbers() {
		want := kind >= 1 && kind <= kinds
		expectValid(t, api.Op{Kind: kind}, want)
		if !want {
			expectValid(t, api.Op{Kind: kind, Index: 1}, false)
			expectValid(t, api.Op{Kind: kind, Index: 1, Target: 2}, false)
			expectValid(t, api.Op{Kind: kind, Amount: 1}, false)
			expectValid(t, api.Op{Kind: kind, Index: -1, Target: 65536, Amount: math.MaxUint64}, false)
		}
	}
}

// Rule 4: the result of a call shares no memory with that of another one, even beyond its length.
func TestEncodeSharesNoMemory(t *testing.T) {
	for kind := 1; kind <= kinds; kind++ {
		o := api.Op{Kind: kind}
		first, _ := op.Encode(o)
		second, _ := op.Encode(o)
		for i := range first {
			first[i] = 0xaa
		}
		_ = append(first, 0xaa, 0xaa)
		if want := encoding(o); !slices.Equal(second, want) {
			t.Errorf("% x after a change of another result; want % x", second, want)
		}
		expectEncode(t, o, encoding(o)...)
	}
}

// P19.2: an operation of each kind, at the beginning, in the middle and at the end of the bytes.
func TestDecodeRows(t *testing.T) {
	for _, x := range []struct {
		b    []byte
		want api.Op
	}{
		{[]byte{1, 1, 2, 3, 4, 5, 6, 7, 8}, api.Op{Kind: api.Deposit, Amount: 0x0102030405060708}},
		{[]byte{2, 0x12, 0x34}, api.Op{Kind: api.Exit, Index: 0x1234}},
		{[]byte{3, 0xff, 0xff}, api.Op{Kind: api.Eject, Index: 65535}},
		{[]byte{4, 0x80, 0}, api.Op{Kind: api.Slash, Index: 32768}},
		{[]byte{5, 0x12, 0x34, 0x56, 0x78}, api.Op{Kind: api.Consolidate, Index: 0x1234, Target: 0x5678}},
		{[]byte{6, 0x12, 0x34, 255, 254, 253, 252, 251, 250, 249, 248}, api.Op{Kind: api.Partial, Index: 0x1234, Amount: 0xfffefdfcfbfaf9f8}},
		{[]byte{7}, api.Op{Kind: api.Tick}},
	} {
		size := len(x.b)
		expectDecode(t, x.b, 0, x.want, size, true)
		expectDecode(t, append([]byte{9, 5, 1}, x.b...), 3, x.want, 3+size, true)
		expectDecode(t, append(slices.Clone(x.b), 7, 7, 7), 0, x.want, size, true)
		expectDecode(t, slices.Concat([]byte{1, 2}, x.b, []byte{6}), 2, x.want, 2+size, true)
	}
}

// P19.2: a byte that is not a kind of the table is skipped, whatever follows it.
func TestDecodeOtherKinds(t *testing.T) {
	for kind := range 256 {
		if kind >= 1 && kind <= kinds {
			continue
		}
		for _, rest := range [][]byte{nil, {0}, {7}, {byte(kind)}, {1, 2, 3, 4, 5, 6, 7, 8, 9, 10, 11, 12, 13, 14, 15}} {
			b := append([]byte{byte(kind)}, rest...)
			expectDecode(t, b, 0, api.Op{Kind: api.Malformed}, 1, true)
			expectDecode(t, append([]byte{7, 7}, b...), 2, api.Op{Kind: api.Malformed}, 3, true)
		}
	}
}

// P19.2: an operation that ends too early takes the rest of the bytes, however many of them are operands, and kinds among them do not matter.
func TestDecodeTooShort(t *testing.T) {
	expectDecode(t, []byte{2}, 0, api.Op{}, 1, true)
	expectDecode(t, []byte{2, 7}, 0, api.Op{}, 2, true)
	expectDecode(t, []byte{7, 5, 7, 7, 7}, 1, api.Op{}, 5, true)
	expectDecode(t, []byte{6, 0, 1, 7, 7, 7, 7, 7, 7, 7}, 0, api.Op{}, 10, true)
	for kind := 1; kind <= kinds; kind++ {
		r, _ := find(kind)
		whole := []byte{byte(kind), 7, 7, 7, 7, 7, 7, 7, 7, 7, 7}[:r.size]
		for _, before := range [][]byte{nil, {7}, {1, 2, 3}} {
			for length := 1; length <= r.size; length++ {
				b := slices.Concat(before, whole[:length])
				got, after, ok := op.Decode(b, len(before))
				if complete := length == r.size; (got.Kind == kind) != complete || (got == api.Op{}) == complete || after != len(b) || !ok {
					t.Errorf("Decode(% x, %d) = %+v, %d, %v", b, len(before), got, after, ok)
				}
			}
		}
	}
}

// Rule 4: bytes beyond the length of a slice are not read.
func TestDecodeWithinLength(t *testing.T) {
	memory := []byte{6, 1, 2, 3, 4, 5, 6, 7, 8, 9, 10, 11, 12}
	for length := 0; length < longest; length++ {
		want, after, ok := api.Op{Kind: api.Malformed}, length, length > 0
		expectDecode(t, memory[:length], 0, want, after, ok)
	}
	expectDecode(t, memory[:3], 3, api.Op{}, 0, false)
	expectDecode(t, memory[1:5], 0, api.Op{}, 4, true)
	expectDecode(t, memory[1:5], -1, api.Op{}, 0, false)
}

// P19.2: an offset that is negative, or not less than the length.
func TestDecodeOffsets(t *testing.T) {
	for _, b := range [][]byte{nil, {}, {7}, {2, 0, 1}, {0}, make([]byte, 1000)} {
		for _, at := range []int{math.MinInt, math.MinInt + 1, math.MinInt32, -1 << 32, -1000, -2, -1, len(b), len(b) + 1, len(b) + 2, 2000, 1 << 32, 1<<62 + 1, math.MaxInt - 11, math.MaxInt - 1, math.MaxInt} {
			expectDecode(t, b, at, api.Op{}, 0, false)
		}
	}
	long := make([]byte, 1<<17)
	long[len(long)-1] = 7
	expectDecode(t, long, 1<<17-1, api.Op{Kind: api.Tick}, 1<<17, true)
	expectDecode(t, long, 1<<16+1, api.Op{Kind: api.Malformed}, 1<<16+2, true)
}

// P19.2: all short sequences of bytes that are a kind or at the limits of one, from each offset.
func TestDecodeSequences(t *testing.T) {
	values := []byte{0, 1, 2, 5, 6, 7, 8, 255}
	var extend func(b []byte)
	extend = func(b []byte) {
		for at := -1; at <= len(b)+1; at++ {
			expectModel(t, b, at)
		}
		if len(b) == 4 {
			return
		}
		for _, v := range values {
			extend(append(slices.Clone(b), v))
		}
	}
	extend(nil)
}

// P19.2: each byte as each operand byte of each kind, with other bytes around it.
func TestDecodeBytes(t *testing.T) {
	for kind := 1; kind <= kinds; kind++ {
		for place := 1; place < longest; place++ {
			for value := range 256 {
				b := []byte{byte(kind), 0xa1, 0x02, 0xb3, 0x04, 0xc5, 0x06, 0xd7, 0x08, 0xe9, 0x0a, 0xfb}
				b[place] = byte(value)
				expectModel(t, b, 0)
			}
		}
	}
}

// P19.2: Decode does not modify the bytes.
func TestDecodeKeepsArguments(t *testing.T) {
	b := []byte{6, 1, 2, 3, 4, 5, 6, 7, 8, 9, 10, 11}
	before := slices.Clone(b)
	for at := range b {
		op.Decode(b, at)
	}
	if !slices.Equal(b, before) {
		t.Errorf("% x; want % x", b, before)
	}
}

// P19.3: the number of bytes of each kind.
func TestSize(t *testing.T) {
	for kind, want := range map[int]int{
		api.Malformed: 0, api.Deposit: 9, api.Exit: 3, api.Eject: 3, api.Slash: 3, api.Consolidate: 5, api.Partial: 11, api.Tick: 1,
	} {
		if got := op.Size(kind); got != want {
			t.Errorf("Size(%d) = %d; want %d", kind, got, want)
		}
	}
}

// P19.3: each kind has its name.
func TestNames(t *testing.T) {
	for kind, name := range map[int]string{
		api.Deposit: "deposit", api.Exit: "exit", api.Eject: "eject", api.Slash: "slash",
		api.Consolidate: "consolidate", api.Partial: "partial", api.Tick: "tick",
	} {
		if got := op.Name(kind); got != name {
			t.Errorf("Name(%d) = %q; want %q", kind, got, name)
		}
		if got, ok := op.Kind(name); got != kind || !ok {
			t.Errorf("Kind(%q) = %d, %v; want %d", name, got, ok, kind)
		}
	}
}

// P19.3: all kinds, and numbers that are none.
func TestSizeAndNameOfNumbers(t *testing.T) {
	for _, n := range numbers() {
		r, _ := find(n)
		if got := op.Size(n); got != r.size {
			t.Errorf("Size(%d) = %d; want %d", n, got, r.size)
		}
		if got := op.Name(n); got != r.name {
			t.Errorf("Name(%d) = %q; want %q", n, got, r.name)
		}
	}
}

// P19.3: strings that are no name: among them each name with a part missing, added or written otherwise.
func TestKindInvalid(t *testing.T) {
	invalid := []string{"", " ", "\x00", "0", "1", "7", "malformed", "Malformed", "none", "fly", "active", "exiting", "merge", "withdraw", "deposit exit", "ex\u0131t", "\xff", strings.Repeat("tick", 1<<16)}
	for kind := 1; kind <= kinds; kind++ {
		r, _ := find(kind)
		name := r.name
		invalid = append(invalid, name+" ", " "+name, name+"\n", name+"\x00", name+name, name+"s", name+" 1", strings.ToUpper(name), strings.ToUpper(name[:1])+name[1:])
		for i := range len(name) {
			invalid = append(invalid, name[:i], name[:i]+name[i+1:], name[:i]+"\x00"+name[i+1:], name[:i]+"z"+name[i+1:])
		}
	}
	for _, name := range invalid {
		if got, ok := op.Kind(name); got != 0 || ok {
			t.Errorf("Kind(%q) = %d, %v; want 0, false", name, got, ok)
		}
	}
}

// P19.4: Decode inverts Encode, wherever the encoding lies, and Size is its length.
func TestDecodeInvertsEncode(t *testing.T) {
	before, behind := []byte{6, 0, 1, 7, 2}, []byte{5, 255, 7}
	seen := map[string]api.Op{}
	for kind := 1; kind <= kinds; kind++ {
		operations(kind, func(o api.Op) {
			b, ok := op.Encode(o)
			if !ok {
				return
			}
			if len(b) != op.Size(kind) {
				t.Errorf("Encode(%+v) has %d bytes; Size(%d) = %d", o, len(b), kind, op.Size(kind))
			}
			expectDecode(t, b, 0, o, len(b), true)
			expectDecode(t, slices.Concat(before, b, behind), len(before), o, len(before)+len(b), true)
			if other, twice := seen[string(b)]; twice && other != o {
				t.Errorf("%+v and %+v are both encoded as % x", o, other, b)
			}
			seen[string(b)] = o
		})
	}
	if len(seen) < 1000 {
		t.Errorf("only %d operations are valid", len(seen))
	}
}

// P19.4: each decoded operation is valid, and its bytes are its encoding, or it is Malformed; each one takes at least a byte.
func TestDecodedOperations(t *testing.T) {
	random := rand.New(rand.NewSource(19))
	for range 3000 {
		b := make([]byte, random.Intn(80))
		for i := range b {
			b[i] = byte(random.Intn(256))
			if random.Intn(2) == 0 {
				b[i] = byte(random.Intn(kinds + 2))
			}
		}
		for at := 0; at < len(b); {
			expectModel(t, b, at)
			o, after, ok := op.Decode(b, at)
			if !ok || after <= at || after > len(b) {
				t.Fatalf("Decode(% x, %d) = %+v, %d, %v", b, at, o, after, ok)
			}
			if (o != api.Op{Kind: api.Malformed}) {
				expectEncode(t, o, b[at:after]...)
			} else {
				expectValid(t, o, false)
			}
			at = after
		}
	}
}

// Rule 6: the functions may be called concurrently.
func TestConcurrentCalls(t *testing.T) {
	var all sync.WaitGroup
	for worker := range 8 {
		all.Go(func() {
			for i := range 500 {
				o := api.Op{Kind: api.Partial, Index: i, Amount: uint64(worker)}
				expectEncode(t, o, encoding(o)...)
				expectDecode(t, encoding(o), 0, o, longest, true)
				if kind, ok := op.Kind(op.Name(api.Consolidate)); kind != api.Consolidate || !ok || op.Size(kind) != 5 {
					t.Error(kind, ok)
				}
			}
		})
	}
	all.Wait()
}
