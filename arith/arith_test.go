package arith

import (
	"math"
	"testing"

	"innkeeper/api"
)

const (
	z = api.Zero
	n = api.Negative
	c = api.Carry
	v = api.Overflow
)

// P1.1: each operation at ordinary words and at the edges that the chapter names.
func TestDoKnownAnswers(t *testing.T) {
	for _, x := range []struct {
		name         string
		op           int
		a, b         uint32
		result, flag uint32
	}{
		{"add", api.Add, 2, 3, 5, 0},
		{"add to 0", api.Add, 0, 0, 0, z},
		{"add to bit 31, both positive", api.Add, 0x7fffffff, 1, 0x80000000, n | v},
		{"add to the last word", api.Add, 0xfffffffe, 1, 0xffffffff, n},
		{"add to exactly 2^32", api.Add, 0xffffffff, 1, 0, z | c},
		{"add to exactly 2^32, the other way", api.Add, 1, 0xffffffff, 0, z | c},
		{"add to 2^32 and 1", api.Add, 0xffffffff, 2, 1, c},
		{"add, both negative, over", api.Add, 0x80000000, 0x80000000, 0, z | c | v},
		{"add, both negative, over, not 0", api.Add, 0x80000000, 0xffffffff, 0x7fffffff, c | v},
		{"add, both negative, not over", api.Add, 0xffffffff, 0xffffffff, 0xfffffffe, n | c},
		{"add, positive and negative", api.Add, 0x7fffffff, 0x80000000, 0xffffffff, n},
		{"add, negative and positive", api.Add, 0x80000000, 0x7fffffff, 0xffffffff, n},
		{"add, both positive, not over", api.Add, 0x3fffffff, 0x40000000, 0x7fffffff, 0},

		{"sub, above", api.Sub, 7, 3, 4, 0},
		{"sub, equal", api.Sub, 5, 5, 0, z},
		{"sub, equal, bit 31", api.Sub, 0x80000000, 0x80000000, 0, z},
		{"sub, below", api.Sub, 1, 2, 0xffffffff, n | c},
		{"sub from 0", api.Sub, 0, 1, 0xffffffff, n | c},
		{"sub, below, both negative", api.Sub, 0x80000000, 0xffffffff, 0x80000001, n | c},
		{"sub, above, both negative", api.Sub, 0xffffffff, 0x80000000, 0x7fffffff, 0},
		{"sub, negative less positive, over", api.Sub, 0x80000000, 1, 0x7fffffff, v},
		{"sub, negative less positive, not over", api.Sub, 0xffffffff, 1, 0xfffffffe, n},
		{"sub, positive less negative, over", api.Sub, 0x7fffffff, 0xffffffff, 0x80000000, n | c | v},
		{"sub, positive less negative, not over", api.Sub, 0, 0xffffffff, 1, c},

		{"cmp, above", api.Cmp, 7, 3, 0, 0},
		{"cmp, equal", api.Cmp, 7, 7, 0, z},
		{"cmp, below", api.Cmp, 1, 2, 0, n | c},
		{"cmp, over", api.Cmp, 0x80000000, 1, 0, v},
		{"cmp, over, below", api.Cmp, 0x7fffffff, 0xffffffff, 0, n | c | v},

		{"and", api.And, 12, 10, 8, 0},
		{"and to 0", api.And, 0xf0f0f0f0, 0x0f0f0f0f, 0, z},
		{"and, bit 31", api.And, 0xffffffff, 0x80000001, 0x80000001, n},
		{"or", api.Or, 12, 10, 14, 0},
		{"or to 0", api.Or, 0, 0, 0, z},
		{"or, bit 31", api.Or, 0x80000000, 1, 0x80000001, n},
		{"xor", api.Xor, 12, 10, 6, 0},
		{"xor to 0", api.Xor, 0x80000000, 0x80000000, 0, z},
		{"xor, bit 31", api.Xor, 0x7fffffff, 0xffffffff, 0x80000000, n},

		{"shl by 0", api.Shl, 3, 0, 3, 0},
		{"shl", api.Shl, 3, 4, 48, 0},
		{"shl loses bits", api.Shl, 0xffffffff, 8, 0xffffff00, n},
		{"shl by 31", api.Shl, 3, 31, 0x80000000, n},
		{"shl by 31 to 0", api.Shl, 2, 31, 0, z},
		{"shl by 32", api.Shl, 0xffffffff, 32, 0, z},
		{"shl by 33", api.Shl, 0xffffffff, 33, 0, z},
		{"shl by 256", api.Shl, 1, 256, 0, z},
		{"shl by 2^31", api.Shl, 1, 0x80000000, 0, z},
		{"shl by the last word", api.Shl, 3, 0xffffffff, 0, z},
		{"shr by 0", api.Shr, 0x80000000, 0, 0x80000000, n},
		{"shr", api.Shr, 48, 4, 3, 0},
		{"shr shifts zeros in", api.Shr, 0x80000000, 1, 0x40000000, 0},
		{"shr by 31", api.Shr, 0xffffffff, 31, 1, 0},
		{"shr by 31 to 0", api.Shr, 0x7fffffff, 31, 0, z},
		{"shr by 32", api.Shr, 0xffffffff, 32, 0, z},
		{"shr by 33", api.Shr, 0xffffffff, 33, 0, z},
		{"shr by 256", api.Shr, 0xffffffff, 256, 0, z},
		{"shr by the last word", api.Shr, 0xffffffff, 0xffffffff, 0, z},

		{"mul", api.Mul, 6, 7, 42, 0},
		{"mul to 0", api.Mul, 0, 9, 0, z},
		{"mul to exactly 2^32", api.Mul, 0x10000, 0x10000, 0, z},
		{"mul beyond 2^32", api.Mul, 0x10001, 0x10001, 0x20001, 0},
		{"mul, bit 31", api.Mul, 0xffffffff, 2, 0xfffffffe, n},
		{"mul of the last words", api.Mul, 0xffffffff, 0xffffffff, 1, 0},
		{"mul to bit 31 of positive words", api.Mul, 0x40000000, 2, 0x80000000, n},

		{"div", api.Div, 42, 6, 7, 0},
		{"div rounds down", api.Div, 41, 6, 6, 0},
		{"div to 0", api.Div, 5, 6, 0, z},
		{"div of 0", api.Div, 0, 6, 0, z},
		{"div is unsigned", api.Div, 0xfffffffe, 2, 0x7fffffff, 0},
		{"div by a word with bit 31", api.Div, 6, 0xfffffffe, 0, z},
		{"div by 1, bit 31", api.Div, 0x80000000, 1, 0x80000000, n},
		{"div of the least by the last", api.Div, 0x80000000, 0xffffffff, 0, z},
	} {
		result, flags, ok := Do(x.op, x.a, x.b)
		if result != x.result || flags != x.flag || !ok {
			t.Errorf("%s: Do answers %x, %x, %v, not %x, %x, true", x.name, result, flags, ok, x.result, x.flag)
		}
		checkFlags(t, x.op, x.a, x.b)
	}
}

// P1.1: Flags is the second and the third result of Do.
func checkFlags(t *testing.T, op int, a, b uint32) {
	t.Helper()
	_, want, wantOK := Do(op, a, b)
	if flags, ok := Flags(op, a, b); flags != want || ok != wantOK {
		t.Errorf("Flags(%x, %x, %x) is %x, %v; Do has %x, %v", op, a, b, flags, ok, want, wantOK)
	}
}

// exact works a result out in 64 bits and bit by bit, another way than Do does.
func exact(op int, a, b uint32) uint32 {
	switch op {
	case api.Add:
		return uint32((uint64(a) + uint64(b)) % (1 << 32))
	case api.Sub:
		return uint32((uint64(a) + 1<<32 - uint64(b)) % (1 << 32))
	case api.Mul:
		return uint32(uint64(a) * uint64(b) % (1 << 32))
	case api.Div:
		return uint32((uint64(a) - uint64(a)%uint64(b)) / uint64(b))
	case api.Cmp:
		return 0
	}
	var r uint32
	for i := range 32 {
		if exactBit(op, a, b, i) {
			r += 1 << i
		}
	}
	return r
}

func exactBit(op int, a, b uint32, i int) bool {
	at := func(w uint32, i int64) bool { return i >= 0 && i < 32 && w>>uint(i)%2 == 1 }
	x, y := at(a, int64(i)), at(b, int64(i))
	switch op {
	case api.And:
		return x && y
	case api.Or:
		return x || y
	case api.Xor:
		return x != y
	case api.Shl:
		return at(a, int64(i)-int64(b))
	}
	return at(a, int64(i)+int64(b)) // Shr
}

func exactFlags(op int, a, b, r uint32) uint32 {
	var unsigned, signed int64
	switch op {
	case api.Add:
		unsigned, signed = int64(a)+int64(b), int64(int32(a))+int64(int32(b))
	case api.Sub, api.Cmp:
		unsigned, signed = int64(a)-int64(b), int64(int32(a))-int64(int32(b))
		r = uint32(unsigned)
	}
	var f uint32
	if r == 0 {
		f += z
	}
	if int32(r) < 0 {
		f += n
	}
	if unsigned < 0 || unsigned > math.MaxUint32 {
		f += c
	}
	if signed < math.MinInt32 || signed > math.MaxInt32 {
		f += v
	}
	return f
}

func edgeWords() []uint32 {
	l := []uint32{0, 3, 5, 6, 7, 30, 31, 32, 33, 63, 64, 100, 255, 256, 0xdeadbeef, 0x12345678, 0x55555555, 0xaaaaaaaa}
	for i := range 32 {
		l = append(l, 1<<i, 1<<i-1, 1<<i+1, -(1 << i))
	}
	return l
}

// P1.1: every operation with every pair of words about the edges, against sums of 64 bits.
func TestDoAgainstExact(t *testing.T) {
	words := edgeWords()
	for op := api.Add; op <= api.Cmp; op++ {
		for _, a := range words {
			for _, b := range words {
				checkFlags(t, op, a, b)
				result, flags, ok := Do(op, a, b)
				if op == api.Div && b == 0 {
					if result != 0 || flags != 0 || ok {
						t.Fatalf("Do(Div, %x, 0) is %x, %x, %v", a, result, flags, ok)
					}
					continue
				}
				want := exact(op, a, b)
				if wantFlags := exactFlags(op, a, b, want); result != want || flags != wantFlags || !ok {
					t.Fatalf("Do(%x, %x, %x) is %x, %x, %v, not %x, %x, true", op, a, b, result, flags, ok, want, wantFlags)
				}
			}
		}
	}
}

// wrongOps are numbers below 0, between and above the operations, and such whose lowest bytes are operations.
func wrongOps() []int {
	l := []int{math.MinInt, math.MaxInt, math.MinInt32, math.MaxInt32}
	for op := -300; op < 0x400; op++ {
		l = append(l, op)
	}
	for op := api.Nop; op <= api.Halt; op++ {
		l = append(l, op+1<<16, op-1<<16, op+1<<31, op+1<<32, op-1<<32)
	}
	return l
}

// P1.1: 0, 0 and false for what is no operation, a jump among them.
func TestDoOfNoOperation(t *testing.T) {
	for _, op := range wrongOps() {
		if op >= api.Add && op <= api.Cmp {
			continue
		}
		for _, w := range [][2]uint32{{0, 0}, {1, 2}, {7, 7}, {0x80000000, 0xffffffff}} {
			result, flags, ok := Do(op, w[0], w[1])
			if result != 0 || flags != 0 || ok {
				t.Errorf("Do(%x, %x, %x) is %x, %x, %v", op, w[0], w[1], result, flags, ok)
			}
			if flags, ok := Flags(op, w[0], w[1]); flags != 0 || ok {
				t.Errorf("Flags(%x, %x, %x) is %x, %v", op, w[0], w[1], flags, ok)
			}
		}
	}
}

// P1.1: a division by 0 is none, of 0 too.
func TestDivByZero(t *testing.T) {
	for _, a := range []uint32{0, 1, 7, 0x7fffffff, 0x80000000, 0xffffffff} {
		if result, flags, ok := Do(api.Div, a, 0); result != 0 || flags != 0 || ok {
			t.Errorf("Do(Div, %x, 0) is %x, %x, %v", a, result, flags, ok)
		}
		if flags, ok := Flags(api.Div, a, 0); flags != 0 || ok {
			t.Errorf("Flags(Div, %x, 0) is %x, %v", a, flags, ok)
		}
	}
}

// P1.2: each jump looks at its own flag alone, whatever the others and the bits above them are.
func TestHolds(t *testing.T) {
	for _, x := range []struct {
		op    int
		bit   uint32
		taken bool // if the bit is set
	}{
		{api.Jz, z, true}, {api.Jnz, z, false}, {api.Jc, c, true}, {api.Jn, n, true}, {api.Jv, v, true},
	} {
		for low := range uint32(16) {
			for _, high := range []uint32{0, 0x10, 0x80000000, 0xfffffff0} {
				flags := low | high
				want := (flags&x.bit != 0) == x.taken
				if taken, ok := Holds(x.op, flags); taken != want || !ok {
					t.Errorf("Holds(%x, %x) is %v, %v, not %v, true", x.op, flags, taken, ok, want)
				}
			}
		}
	}
}

// P1.2: false, false for what is no conditional jump: operations, and the jumps that always go.
func TestHoldsOfNoConditionalJump(t *testing.T) {
	for _, op := range wrongOps() {
		if op >= api.Jz && op <= api.Jv {
			continue
		}
		for flags := range uint32(16) {
			if taken, ok := Holds(op, flags); taken || ok {
				t.Errorf("Holds(%x, %x) is %v, %v", op, flags, taken, ok)
			}
		}
	}
}

// P1.2: Sign reads the lowest byte alone.
func TestSign(t *testing.T) {
	for _, x := range [][2]uint32{
		{0, 0}, {1, 1}, {127, 127}, {128, 0xffffff80}, {254, 0xfffffffe}, {255, 0xffffffff},
		{256, 0}, {0x17f, 127}, {0x180, 0xffffff80}, {0xffffff00, 0}, {0xffffff7f, 127}, {0xffffffff, 0xffffffff},
	} {
		if got := Sign(x[0]); got != x[1] {
			t.Errorf("Sign(%x) is %x, not %x", x[0], got, x[1])
		}
	}
	for b := range uint32(1 << 16) {
		want := b % 256
		if want >= 128 {
			want -= 256
		}
		if got := Sign(b); got != want {
			t.Fatalf("Sign(%x) is %x, not %x", b, got, want)
		}
	}
}
