package gcode

import (
	"bytes"
	"math"
	"slices"
	"strconv"
	"testing"

	"innkeeper/api"
)

// row is what the chapter says of one operation.
type row struct {
	op, size           int
	name               string
	ends, plain, super bool
}

// rows are all operations, by their bytes and not by their names, so that a wrong name is seen.
func rows() []row {
	return []row{
		{0x00, 1, "nop", false, true, false},
		{0x01, 2, "lit8", false, true, false},
		{0x02, 5, "lit32", false, true, false},
		{0x03, 1, "dup", false, true, false},
		{0x04, 1, "drop", false, true, false},
		{0x05, 1, "swap", false, true, false},
		{0x06, 1, "over", false, true, false},
		{0x07, 1, "tor", false, true, false},
		{0x08, 1, "fromr", false, true, false},

		{0x10, 1, "add", false, true, false},
		{0x11, 1, "sub", false, true, false},
		{0x12, 1, "and", false, true, false},
		{0x13, 1, "or", false, true, false},
		{0x14, 1, "xor", false, true, false},
		{0x15, 1, "shl", false, true, false},
		{0x16, 1, "shr", false, true, false},
		{0x17, 1, "mul", false, true, false},
		{0x18, 1, "div", false, false, false},
		{0x19, 1, "cmp", false, true, false},

		{0x20, 2, "jmp", true, true, false},
		{0x21, 2, "jz", true, true, false},
		{0x22, 2, "jnz", true, true, false},
		{0x23, 2, "jc", true, true, false},
		{0x24, 2, "jn", true, true, false},
		{0x25, 2, "jv", true, true, false},
		{0x26, 2, "call", true, true, false},
		{0x27, 1, "ret", true, true, false},
		{0x28, 1, "jmpi", true, true, false},

		{0x30, 1, "ld", false, false, false},
		{0x31, 1, "st", false, false, false},
		{0x32, 1, "ldu", false, false, false},
		{0x33, 1, "stu", false, false, false},
		{0x34, 1, "ldb", false, false, false},
		{0x35, 1, "stb", false, false, false},

		{0x40, 1, "sys", true, false, false},
		{0x41, 1, "iret", true, false, true},
		{0x42, 2, "csrr", true, false, true},
		{0x43, 2, "csrw", true, false, true},
		{0x44, 1, "tlbi", true, false, true},
		{0x45, 1, "halt", true, false, true},
	}
}

func rowOf(op int) (row, bool) {
	for _, r := range rows() {
		if r.op == op {
			return r, true
		}
	}
	return row{}, false
}

// wrongOps are numbers that are no operations: below 0, between, above, and such whose lowest bytes are operations.
func wrongOps() []int {
	l := []int{math.MinInt, math.MaxInt, math.MinInt32, math.MaxInt32, math.MinInt + 1}
	for op := -300; op < 0x400; op++ {
		if _, is := rowOf(op); !is {
			l = append(l, op)
		}
	}
	for _, r := range rows() {
		l = append(l, r.op+1<<16, r.op-1<<16, r.op+1<<31, r.op+1<<32, r.op-1<<32)
	}
	return l
}

func edgeNumbers() []uint32 {
	return []uint32{0, 1, 2, 5, 9, 10, 127, 128, 254, 255, 256, 257, 258, 511, 0xff00, 0x10000, 0x7fffffff, 0x80000000, 0x80000001, 0xff000000, 0xffffff00, 0xffffffff}
}

// fits tells whether N may stand in an instruction of that size.
func fits(size int, n uint32) bool {
	return size == 5 || size == 2 && n < 256 || size == 1 && n == 0
}

// written is an instruction's bytes, worked out by division and not by shifts.
func written(r row, n uint32) []byte {
	b := []byte{byte(r.op)}
	for len(b) < r.size {
		b = append(b, byte(n%256))
		n /= 256
	}
	return b
}

// valid are instructions of every operation with every edge of N.
func valid() []api.Instr {
	var l []api.Instr
	for _, r := range rows() {
		for _, n := range edgeNumbers() {
			if fits(r.size, n) {
				l = append(l, api.Instr{Op: r.op, N: n})
			}
		}
	}
	return l
}

func invalid() []api.Instr {
	var l []api.Instr
	for _, r := range rows() {
		for _, n := range edgeNumbers() {
			if !fits(r.size, n) {
				l = append(l, api.Instr{Op: r.op, N: n})
			}
		}
	}
	for _, op := range wrongOps() {
		for _, n := range []uint32{0, 1, 255, 256, 0xffffffff} {
			l = append(l, api.Instr{Op: op, N: n})
		}
	}
	return l
}

// P2.1: the size of each operation, and 0 for what is none.
func TestSize(t *testing.T) {
	for _, r := range rows() {
		if got := Size(r.op); got != r.size {
			t.Errorf("Size(%x) is %d, not %d", r.op, got, r.size)
		}
	}
	for _, op := range wrongOps() {
		if got := Size(op); got != 0 {
			t.Errorf("Size(%x) is %d, not 0", op, got)
		}
	}
}

// P2.1: N is 0 at size 1, a byte at size 2, any word at size 5.
func TestRight(t *testing.T) {
	for _, i := range valid() {
		if !Right(i) {
			t.Errorf("Right(%x, %d) is false", i.Op, i.N)
		}
	}
	for _, i := range invalid() {
		if Right(i) {
			t.Errorf("Right(%x, %d) is true", i.Op, i.N)
		}
	}
	for n := range uint32(1 << 10) {
		if got := Right(api.Instr{Op: api.Jmp, N: n}); got != (n <= 255) {
			t.Errorf("Right(Jmp, %d) is %v", n, got)
		}
	}
}

// P2.1: the byte Op, and N behind it, the least significant byte first.
func TestEncodeKnownAnswers(t *testing.T) {
	for _, x := range []struct {
		op   int
		n    uint32
		want []byte
	}{
		{api.Nop, 0, []byte{0}},
		{api.Halt, 0, []byte{0x45}},
		{api.Lit8, 0, []byte{1, 0}},
		{api.Lit8, 255, []byte{1, 255}},
		{api.CsrW, 10, []byte{0x43, 10}},
		{api.Lit32, 0, []byte{2, 0, 0, 0, 0}},
		{api.Lit32, 255, []byte{2, 255, 0, 0, 0}},
		{api.Lit32, 256, []byte{2, 0, 1, 0, 0}},
		{api.Lit32, 258, []byte{2, 2, 1, 0, 0}},
		{api.Lit32, 0x12345678, []byte{2, 0x78, 0x56, 0x34, 0x12}},
		{api.Lit32, 0xffffffff, []byte{2, 255, 255, 255, 255}},
	} {
		if got, errno := Encode(api.Instr{Op: x.op, N: x.n}); !bytes.Equal(got, x.want) || errno != api.OK {
			t.Errorf("Encode(%x, %d) is %v, %d, not %v", x.op, x.n, got, errno, x.want)
		}
	}
}

func TestEncode(t *testing.T) {
	for _, i := range valid() {
		r, _ := rowOf(i.Op)
		if got, errno := Encode(i); !bytes.Equal(got, written(r, i.N)) || errno != api.OK {
			t.Errorf("Encode(%x, %d) is %v, %d", i.Op, i.N, got, errno)
		}
	}
	for _, i := range invalid() {
		if got, errno := Encode(i); len(got) > 0 || errno != api.ErrForm {
			t.Errorf("Encode(%x, %d) is %v, %d, not ErrForm", i.Op, i.N, got, errno)
		}
	}
}

func checkDecode(t *testing.T, b []byte, want api.Instr, wantSize int, wantErrno api.Errno) {
	t.Helper()
	i, size, errno := Decode(b)
	if i != want || size != wantSize || errno != wantErrno {
		t.Errorf("Decode(%v) is %v, %d, %d, not %v, %d, %d", b, i, size, errno, want, wantSize, wantErrno)
	}
}

// P2.1: what bytes begin with: nothing, and each first byte with from no to six bytes behind it.
func TestDecode(t *testing.T) {
	checkDecode(t, nil, api.Instr{}, 0, api.ErrEnd)
	checkDecode(t, []byte{}, api.Instr{}, 0, api.ErrEnd)
	tail := []byte{0xf1, 0x82, 0x73, 0x04, 0xff, 0x09}
	for first := range 256 {
		r, is := rowOf(first)
		for behind := range len(tail) + 1 {
			b := append([]byte{byte(first)}, tail[:behind]...)
			switch {
			case !is:
				checkDecode(t, b, api.Instr{}, 0, api.ErrForm)
			case len(b) < r.size:
				checkDecode(t, b, api.Instr{}, 0, api.ErrEnd)
			case r.size == 1:
				checkDecode(t, b, api.Instr{Op: first}, 1, api.OK)
			case r.size == 2:
				checkDecode(t, b, api.Instr{Op: first, N: 0xf1}, 2, api.OK)
			default:
				checkDecode(t, b, api.Instr{Op: first, N: 0x047382f1}, 5, api.OK)
			}
		}
	}
}

// P2.1: bytes in the room behind the end are not read: they are no part of b.
func TestDecodeOfBytesWithRoom(t *testing.T) {
	room := []byte{2, 1, 2, 3, 4, 5}
	checkDecode(t, room[:0], api.Instr{}, 0, api.ErrEnd)
	for end := 1; end < 5; end++ {
		checkDecode(t, room[:end], api.Instr{}, 0, api.ErrEnd)
	}
	if l, at := All(append(room, 1)[:4]); len(l) > 0 || at != 0 {
		t.Errorf("All of bytes with room is %v, %d", l, at)
	}
}

// P2.3: Decode of Encode(i), followed by any bytes, returns i and its size.
func TestDecodeOfEncode(t *testing.T) {
	tails := [][]byte{nil, {0}, {9}, {2}, {1, 2, 3, 4, 5}, {255, 255, 255, 255, 255}, bytes.Repeat([]byte{0x45}, 300)}
	for _, i := range valid() {
		code, errno := Encode(i)
		if errno != api.OK {
			t.Errorf("Encode(%v) is refused: %d", i, errno)
		}
		for _, tail := range tails {
			checkDecode(t, append(slices.Clone(code), tail...), i, Size(i.Op), api.OK)
		}
		for end := range len(code) {
			checkDecode(t, code[:end], api.Instr{}, 0, api.ErrEnd)
		}
	}
	for n := range uint32(256) {
		code, _ := Encode(api.Instr{Op: api.Call, N: n})
		checkDecode(t, append(code, 0x33), api.Instr{Op: api.Call, N: n}, 2, api.OK)
	}
}

// P2.1: Join of nothing, of one, of a few, of many.
func TestJoin(t *testing.T) {
	if got, errno := Join(); len(got) > 0 || errno != api.OK {
		t.Errorf("Join() is %v, %d", got, errno)
	}
	if got, errno := Join([]api.Instr{}...); len(got) > 0 || errno != api.OK {
		t.Errorf("Join of an empty list is %v, %d", got, errno)
	}
	got, errno := Join(api.Instr{Op: api.Lit32, N: 258}, api.Instr{Op: api.Add}, api.Instr{Op: api.Jz, N: 254})
	if !bytes.Equal(got, []byte{2, 2, 1, 0, 0, 0x10, 0x21, 254}) || errno != api.OK {
		t.Errorf("Join of three is %v, %d", got, errno)
	}
	var want []byte
	for count, i := range valid() {
		r, _ := rowOf(i.Op)
		if got, errno := Join(i); !bytes.Equal(got, written(r, i.N)) || errno != api.OK {
			t.Errorf("Join(%v) is %v, %d", i, got, errno)
		}
		want = append(want, written(r, i.N)...)
		if got, errno := Join(valid()[:count+1]...); !bytes.Equal(got, want) || errno != api.OK {
			t.Fatalf("Join of the first %d is %v, %d, not %v", count+1, got, errno, want)
		}
	}
	many := slices.Repeat(valid(), 300)
	if got, errno := Join(many...); !bytes.Equal(got, bytes.Repeat(want, 300)) || errno != api.OK {
		t.Errorf("Join of %d instructions has %d bytes, %d", len(many), len(got), errno)
	}
}

// P2.1: one that is not valid, in whatever place, spoils all.
func TestJoinOfNotValid(t *testing.T) {
	for _, bad := range invalid() {
		if got, errno := Join(bad); len(got) > 0 || errno != api.ErrForm {
			t.Errorf("Join(%v) is %v, %d, not ErrForm", bad, got, errno)
		}
	}
	for _, bad := range []api.Instr{{Op: 9}, {Op: -1}, {Op: 256}, {Op: api.Add, N: 1}, {Op: api.Jmp, N: 256}} {
		for at := range 5 {
			l := slices.Repeat([]api.Instr{{Op: api.Lit32, N: 7}}, 5)
			l[at] = bad
			if got, errno := Join(l...); len(got) > 0 || errno != api.ErrForm {
				t.Errorf("Join with %v at %d is %v, %d, not ErrForm", bad, at, got, errno)
			}
		}
	}
}

func checkAll(t *testing.T, b []byte, want []api.Instr, wantAt int) {
	t.Helper()
	if l, at := All(b); !slices.Equal(l, want) || at != wantAt {
		t.Errorf("All(%v) is %v, %d, not %v, %d", b, l, at, want, wantAt)
	}
}

// P2.1: All of code that is whole, that ends within an instruction, that comes to a byte that is none.
func TestAll(t *testing.T) {
	checkAll(t, nil, nil, 0)
	checkAll(t, []byte{}, nil, 0)
	checkAll(t, []byte{0}, []api.Instr{{Op: api.Nop}}, 1)
	checkAll(t, []byte{0x45}, []api.Instr{{Op: api.Halt}}, 1)
	checkAll(t, []byte{0x45, 0, 0x28}, []api.Instr{{Op: api.Halt}, {Op: api.Nop}, {Op: api.JmpI}}, 3)
	checkAll(t, []byte{9}, nil, 0)
	checkAll(t, []byte{1}, nil, 0)
	checkAll(t, []byte{2, 1, 2, 3}, nil, 0)
	checkAll(t, []byte{0, 1}, []api.Instr{{Op: api.Nop}}, 1)
	checkAll(t, []byte{0, 1, 9}, []api.Instr{{Op: api.Nop}, {Op: api.Lit8, N: 9}}, 3)
	checkAll(t, []byte{0, 9, 0, 0}, []api.Instr{{Op: api.Nop}}, 1)
	checkAll(t, []byte{2, 9, 9, 9, 9, 0xff, 0x10}, []api.Instr{{Op: api.Lit32, N: 0x09090909}}, 5)
	checkAll(t, []byte{0x20, 1, 2, 9, 9, 9}, []api.Instr{{Op: api.Jmp, N: 1}}, 2)

	l := valid()
	code, _ := Join(l...)
	checkAll(t, code, l, len(code))
	checkAll(t, append(slices.Clone(code), 0x0f, 0), l, len(code))
	many := slices.Repeat(l, 300)
	code, _ = Join(many...)
	if got, at := All(code); !slices.Equal(got, many) || at != len(code) {
		t.Errorf("All of %d instructions has %d, to %d", len(many), len(got), at)
	}
}

// P2.1: All of code cut off at each place stops where the last whole instruction ends.
func TestAllCutOff(t *testing.T) {
	l := []api.Instr{{Op: api.Lit32, N: 0xffffffff}, {Op: api.Dup}, {Op: api.Jz, N: 255}, {Op: api.Lit32, N: 9}, {Op: api.Halt}}
	code, _ := Join(l...)
	ends := []int{0, 5, 6, 8, 13, 14}
	for cut := range len(code) + 1 {
		whole := 0
		for whole+1 < len(ends) && ends[whole+1] <= cut {
			whole++
		}
		checkAll(t, code[:cut], l[:whole], ends[whole])
	}
}

// P2.2: the name of each operation, and N behind it if the size is greater than 1.
func TestText(t *testing.T) {
	for _, i := range valid() {
		r, _ := rowOf(i.Op)
		want := r.name
		if r.size > 1 {
			want += " " + strconv.FormatInt(int64(i.N), 10)
		}
		if got := Text(i); got != want {
			t.Errorf("Text(%x, %d) is %q, not %q", i.Op, i.N, got, want)
		}
	}
	for _, i := range invalid() {
		if got := Text(i); got != "?" {
			t.Errorf("Text(%x, %d) is %q, not ?", i.Op, i.N, got)
		}
	}
}

func TestTextKnownAnswers(t *testing.T) {
	for want, i := range map[string]api.Instr{
		"nop":              {Op: api.Nop},
		"lit8 0":           {Op: api.Lit8},
		"lit8 7":           {Op: api.Lit8, N: 7},
		"lit8 10":          {Op: api.Lit8, N: 10},
		"jz 254":           {Op: api.Jz, N: 254},
		"jmp 128":          {Op: api.Jmp, N: 128},
		"csrr 100":         {Op: api.CsrR, N: 100},
		"lit32 0":          {Op: api.Lit32},
		"lit32 9":          {Op: api.Lit32, N: 9},
		"lit32 1000000000": {Op: api.Lit32, N: 1000000000},
		"lit32 2147483648": {Op: api.Lit32, N: 1 << 31},
		"lit32 4294967295": {Op: api.Lit32, N: 0xffffffff},
	} {
		if got := Text(i); got != want {
			t.Errorf("Text(%x, %d) is %q, not %q", i.Op, i.N, got, want)
		}
	}
}

// P2.2: which operations end a block, are plain, are the supervisor's; a number that is none is none of these.
func TestKinds(t *testing.T) {
	for _, r := range rows() {
		checkKinds(t, r)
	}
	for _, op := range wrongOps() {
		checkKinds(t, row{op: op})
	}
}

func checkKinds(t *testing.T, r row) {
	t.Helper()
	if got := Ends(r.op); got != r.ends {
		t.Errorf("Ends(%x) is %v", r.op, got)
	}
	if got := Plain(r.op); got != r.plain {
		t.Errorf("Plain(%x) is %v", r.op, got)
	}
	if got := Super(r.op); got != r.super {
		t.Errorf("Super(%x) is %v", r.op, got)
	}
}

// R2: nothing that is passed is changed or kept, the room behind it included, and what is returned is new each time.
func TestMemoryIsOnesOwn(t *testing.T) {
	room := []byte{1, 7, 2, 1, 0, 0, 0, 0x45, 9, 9, 9, 9}
	before := slices.Clone(room)
	l, _ := All(room[:8])
	Decode(room[:2])
	if !bytes.Equal(room, before) {
		t.Errorf("the bytes became %v", room)
	}
	clear(room)
	want := []api.Instr{{Op: api.Lit8, N: 7}, {Op: api.Lit32, N: 1}, {Op: api.Halt}}
	if !slices.Equal(l, want) {
		t.Errorf("the instructions became %v", l)
	}

	list := append(slices.Clone(want), api.Instr{Op: api.Div}, api.Instr{Op: api.Add})
	listBefore := slices.Clone(list)
	first, _ := Join(list[:3]...)
	second, _ := Join(list[:3]...)
	clear(first[:cap(first)])
	if !slices.Equal(list, listBefore) || !bytes.Equal(second, before[:8]) {
		t.Errorf("Join left %v and %v", list, second)
	}

	one, _ := Encode(want[1])
	other, _ := Encode(want[1])
	clear(one[:cap(one)])
	if !bytes.Equal(other, before[2:7]) {
		t.Errorf("Encode left %v", other)
	}
	again, _ := All(before[:8])
	clear(again[:cap(again)])
	if l, _ := All(before[:8]); !slices.Equal(l, want) {
		t.Errorf("All left %v", l)
	}
}
