package hcode

import (
	"bytes"
	"math"
	"slices"
	"strconv"
	"testing"

	"innkeeper/api"
)

// row is what the chapter says of one operation: its number, its name, and the fields that it uses (d, a, b, i).
type row struct {
	op     int
	name   string
	fields string
}

// rows are all operations, by their bytes and not by their names, so that a wrong name is seen.
func rows() []row {
	return []row{
		{0, "nop", ""},
		{1, "li", "di"},
		{2, "mov", "da"},
		{3, "add", "dab"},
		{4, "sub", "dab"},
		{5, "and", "dab"},
		{6, "or", "dab"},
		{7, "xor", "dab"},
		{8, "shl", "dab"},
		{9, "shr", "dab"},
		{10, "mul", "dab"},
		{11, "div", "dab"},
		{12, "ltu", "dab"},
		{13, "eq", "dab"},
		{14, "ld", "dai"},
		{15, "st", "abi"},
		{16, "beqz", "ai"},
		{17, "bnez", "ai"},
		{18, "jmp", "i"},
		{19, "exit", "i"},
	}
}

func (r row) uses(field byte) bool {
	return bytes.IndexByte([]byte(r.fields), field) >= 0
}

func rowOf(op int) (row, bool) {
	for _, r := range rows() {
		if r.op == op {
			return r, true
		}
	}
	return row{}, false
}

// wrongOps are numbers that are no operations: below 0, above the last, and such whose lowest bytes are operations.
func wrongOps() []int {
	l := []int{math.MinInt, math.MinInt + 1, math.MaxInt, math.MinInt32, math.MaxInt32}
	for op := -300; op < 0x400; op++ {
		if _, is := rowOf(op); !is {
			l = append(l, op)
		}
	}
	for _, r := range rows() {
		l = append(l, r.op+1<<16, r.op-1<<16, r.op+1<<31, r.op+1<<32, r.op-1<<32)
	}
	return l
}

// wrongRegisters are numbers that are no registers, such among them whose lowest bytes are 0 or 1.
func wrongRegisters() []int {
	return []int{-1, -15, -16, -255, -256, 16, 17, 31, 127, 128, 255, 256, 257, 1 << 16, 1<<31 - 1, 1 << 31, 1 << 32, 1<<32 + 1, math.MinInt, math.MaxInt}
}

func edgeWords() []uint32 {
	return []uint32{0, 1, 7, 9, 10, 15, 16, 127, 128, 255, 256, 257, 258, 0xff00, 0xffff, 0x10000, 0x1000000, 999999999, 1000000000, 0x12345678, 0x7fffffff, 0x80000000, 0xff000000, 0xffffff00, 0xffffffff}
}

// set is i with the number n in one of its fields.
func set(i api.HInstr, field byte, n int) api.HInstr {
	switch field {
	case 'd':
		i.Rd = n
	case 'a':
		i.Ra = n
	case 'b':
		i.Rb = n
	case 'i':
		i.Imm = uint32(n)
	}
	return i
}

// full is an instruction of r with a number of its own in each field that it uses.
func full(r row) api.HInstr {
	i := api.HInstr{Op: r.op}
	for at, field := range []byte("dab") {
		if r.uses(field) {
			i = set(i, field, at+3)
		}
	}
	if r.uses('i') {
		i.Imm = 0x04030201
	}
	return i
}

// valid are instructions of every operation, each used field at its edges, the others at 0 or all at numbers of their own.
func valid() []api.HInstr {
	var l []api.HInstr
	for _, r := range rows() {
		for _, i := range []api.HInstr{{Op: r.op}, full(r)} {
			l = append(l, i)
			for _, field := range []byte(r.fields) {
				if field == 'i' {
					for _, n := range edgeWords() {
						l = append(l, set(i, field, int(n)))
					}
					continue
				}
				for n := range 16 {
					l = append(l, set(i, field, n))
				}
			}
		}
	}
	return l
}

// invalid have a wrong operation, a wrong register, or a number in one field that their operation does not use.
func invalid() []api.HInstr {
	var l []api.HInstr
	for _, r := range rows() {
		for _, i := range []api.HInstr{{Op: r.op}, full(r)} {
			l = append(l, spoiled(r, i)...)
		}
	}
	for _, op := range wrongOps() {
		l = append(l, api.HInstr{Op: op}, api.HInstr{Op: op, Rd: 1}, api.HInstr{Op: op, Rd: 1, Ra: 2, Rb: 3}, api.HInstr{Op: op, Imm: 1})
	}
	return l
}

// spoiled are i, an instruction of r, with one field that makes it not valid.
func spoiled(r row, i api.HInstr) []api.HInstr {
	var l []api.HInstr
	for _, field := range []byte("dab") {
		for _, n := range wrongRegisters() {
			l = append(l, set(i, field, n))
		}
		if !r.uses(field) {
			l = append(l, set(i, field, 1), set(i, field, 2), set(i, field, 15))
		}
	}
	if !r.uses('i') {
		for _, n := range edgeWords()[1:] {
			l = append(l, set(i, 'i', int(n)))
		}
	}
	return l
}

// written is an instruction's bytes, worked out by division and not by shifts.
func written(i api.HInstr) []byte {
	b := []byte{byte(i.Op), byte(i.Rd), byte(i.Ra), byte(i.Rb)}
	n := i.Imm
	for range 4 {
		b = append(b, byte(n%256))
		n /= 256
	}
	return b
}

func TestSize(t *testing.T) {
	if Size != 8 {
		t.Errorf("Size is %d", Size)
	}
}

// P3.1: which operations there are, which registers, and which fields each operation uses.
func TestRight(t *testing.T) {
	for _, i := range valid() {
		if !Right(i) {
			t.Errorf("Right(%+v) is false", i)
		}
	}
	for _, i := range invalid() {
		if Right(i) {
			t.Errorf("Right(%+v) is true", i)
		}
	}
}

// P3.1: the chapter's own rows, by the operations' names.
func TestRightByNames(t *testing.T) {
	for _, x := range []struct {
		i    api.HInstr
		want bool
	}{
		{api.HInstr{Op: api.HNop}, true},
		{api.HInstr{Op: api.HNop, Imm: 1}, false},
		{api.HInstr{Op: api.HNop, Rd: 1}, false},
		{api.HInstr{Op: api.HLi, Rd: 15, Imm: 0xffffffff}, true},
		{api.HInstr{Op: api.HLi, Rd: 16}, false},
		{api.HInstr{Op: api.HLi, Ra: 1}, false},
		{api.HInstr{Op: api.HMov, Rd: 15, Ra: 15}, true},
		{api.HInstr{Op: api.HMov, Rb: 1}, false},
		{api.HInstr{Op: api.HAdd, Rd: 15, Ra: 15, Rb: 15}, true},
		{api.HInstr{Op: api.HAdd, Imm: 1}, false},
		{api.HInstr{Op: api.HEq, Rd: 15, Ra: 15, Rb: 15}, true},
		{api.HInstr{Op: api.HEq, Rb: -1}, false},
		{api.HInstr{Op: api.HLd, Rd: 15, Ra: 15, Imm: 0xffffffff}, true},
		{api.HInstr{Op: api.HLd, Rb: 1}, false},
		{api.HInstr{Op: api.HSt, Ra: 15, Rb: 15, Imm: 0xffffffff}, true},
		{api.HInstr{Op: api.HSt, Rd: 1}, false},
		{api.HInstr{Op: api.HBeqz, Ra: 15, Imm: 8}, true},
		{api.HInstr{Op: api.HBeqz, Rd: 1}, false},
		{api.HInstr{Op: api.HBnez, Ra: 15, Imm: 8}, true},
		{api.HInstr{Op: api.HBnez, Rb: 1}, false},
		{api.HInstr{Op: api.HJmp, Imm: 256}, true},
		{api.HInstr{Op: api.HJmp, Ra: 1}, false},
		{api.HInstr{Op: api.HExit, Imm: 256}, true},
		{api.HInstr{Op: api.HExit, Rd: 1}, false},
		{api.HInstr{Op: api.HExit + 1}, false},
		{api.HInstr{Op: api.HNop - 1}, false},
	} {
		if got := Right(x.i); got != x.want {
			t.Errorf("Right(%+v) is %v", x.i, got)
		}
	}
}

// P3.1 and the chapter's example: Op, Rd, Ra and Rb in a byte each, Imm with its least significant byte first.
func TestEncodeKnownAnswers(t *testing.T) {
	for _, x := range []struct {
		i    api.HInstr
		want []byte
	}{
		{api.HInstr{Op: api.HLi, Rd: 3, Imm: 258}, []byte{1, 3, 0, 0, 2, 1, 0, 0}},
		{api.HInstr{Op: api.HNop}, []byte{0, 0, 0, 0, 0, 0, 0, 0}},
		{api.HInstr{Op: api.HMov, Rd: 1, Ra: 2}, []byte{2, 1, 2, 0, 0, 0, 0, 0}},
		{api.HInstr{Op: api.HEq, Rd: 1, Ra: 2, Rb: 15}, []byte{13, 1, 2, 15, 0, 0, 0, 0}},
		{api.HInstr{Op: api.HLd, Rd: 15, Ra: 1, Imm: 255}, []byte{14, 15, 1, 0, 255, 0, 0, 0}},
		{api.HInstr{Op: api.HSt, Ra: 5, Rb: 6, Imm: 256}, []byte{15, 0, 5, 6, 0, 1, 0, 0}},
		{api.HInstr{Op: api.HBnez, Ra: 9, Imm: 0x12345678}, []byte{17, 0, 9, 0, 0x78, 0x56, 0x34, 0x12}},
		{api.HInstr{Op: api.HExit, Imm: 0xffffffff}, []byte{19, 0, 0, 0, 255, 255, 255, 255}},
	} {
		if got, errno := Encode(x.i); !bytes.Equal(got, x.want) || errno != api.OK {
			t.Errorf("Encode(%+v) is %v, %d, not %v", x.i, got, errno, x.want)
		}
		checkDecode(t, x.want, x.i, api.OK)
	}
}

func TestEncode(t *testing.T) {
	for _, i := range valid() {
		if got, errno := Encode(i); !bytes.Equal(got, written(i)) || errno != api.OK {
			t.Errorf("Encode(%+v) is %v, %d", i, got, errno)
		}
	}
	for _, i := range invalid() {
		if got, errno := Encode(i); len(got) > 0 || errno != api.ErrForm {
			t.Errorf("Encode(%+v) is %v, %d, not ErrForm", i, got, errno)
		}
	}
}

func checkDecode(t *testing.T, b []byte, want api.HInstr, wantErrno api.Errno) {
	t.Helper()
	if i, errno := Decode(b); i != want || errno != wantErrno {
		t.Errorf("Decode(%v) is %+v, %d, not %+v, %d", b, i, errno, want, wantErrno)
	}
}

// P3.1: Decode of an encoding is the instruction, and of nothing shorter or longer.
func TestDecodeOfEncode(t *testing.T) {
	for _, i := range valid() {
		code := written(i)
		checkDecode(t, code, i, api.OK)
		checkDecode(t, append(slices.Clone(code), 0), api.HInstr{}, api.ErrEnd)
		for end := range len(code) {
			checkDecode(t, code[:end], api.HInstr{}, api.ErrEnd)
		}
	}
}

// P3.1: the wrong length is told before anything of what the bytes say.
func TestDecodeOfWrongLength(t *testing.T) {
	checkDecode(t, nil, api.HInstr{}, api.ErrEnd)
	checkDecode(t, []byte{}, api.HInstr{}, api.ErrEnd)
	for _, filler := range []byte{0, 1, 16, 20, 99, 255} {
		for _, size := range []int{1, 2, 3, 4, 5, 6, 7, 9, 10, 15, 16, 17, 24, 256, 264, 65536, 65544} {
			checkDecode(t, bytes.Repeat([]byte{filler}, size), api.HInstr{}, api.ErrEnd)
		}
	}
}

// P3.1: every first byte, every register byte and a number in every field, against what the chapter says of it.
func TestDecodeOfAnyBytes(t *testing.T) {
	for op := range 256 {
		r, is := rowOf(op)
		for at, field := range []byte("dab") {
			for n := range 256 {
				b := make([]byte, 8)
				b[0], b[at+1] = byte(op), byte(n)
				if is && (n == 0 || n < 16 && r.uses(field)) {
					checkDecode(t, b, set(api.HInstr{Op: op}, field, n), api.OK)
				} else {
					checkDecode(t, b, api.HInstr{}, api.ErrForm)
				}
			}
		}
		for at := range 4 {
			for _, n := range []byte{1, 16, 128, 255} {
				b := make([]byte, 8)
				b[0], b[at+4] = byte(op), n
				if is && r.uses('i') {
					checkDecode(t, b, api.HInstr{Op: op, Imm: uint32(n) << (8 * at)}, api.OK)
				} else {
					checkDecode(t, b, api.HInstr{}, api.ErrForm)
				}
			}
		}
	}
}

// P3.1: the same with the used fields filled: one byte that may not stand there spoils the rest.
func TestDecodeOfSpoiledBytes(t *testing.T) {
	for _, r := range rows() {
		for at, field := range []byte("dab") {
			for _, n := range []byte{1, 15, 16, 17, 128, 255} {
				b := written(full(r))
				b[at+1] = n
				if n < 16 && r.uses(field) {
					checkDecode(t, b, set(full(r), field, int(n)), api.OK)
				} else {
					checkDecode(t, b, api.HInstr{}, api.ErrForm)
				}
			}
		}
		for _, op := range []byte{20, 21, 127, 128, 255} {
			b := written(full(r))
			b[0] = op
			checkDecode(t, b, api.HInstr{}, api.ErrForm)
		}
	}
}

// P3.1: Join of nothing, of one, of a few, of many.
func TestJoin(t *testing.T) {
	if got, errno := Join(); len(got) > 0 || errno != api.OK {
		t.Errorf("Join() is %v, %d", got, errno)
	}
	if got, errno := Join([]api.HInstr{}...); len(got) > 0 || errno != api.OK {
		t.Errorf("Join of an empty list is %v, %d", got, errno)
	}
	got, errno := Join(api.HInstr{Op: api.HLi, Rd: 3, Imm: 258}, api.HInstr{Op: api.HNop}, api.HInstr{Op: api.HExit, Imm: 7})
	if !bytes.Equal(got, []byte{1, 3, 0, 0, 2, 1, 0, 0, 0, 0, 0, 0, 0, 0, 0, 0, 19, 0, 0, 0, 7, 0, 0, 0}) || errno != api.OK {
		t.Errorf("Join of three is %v, %d", got, errno)
	}
	l := valid()
	var want []byte
	for count, i := range l {
		want = append(want, written(i)...)
		if got, errno := Join(i); !bytes.Equal(got, written(i)) || errno != api.OK {
			t.Errorf("Join(%+v) is %v, %d", i, got, errno)
		}
		if got, errno := Join(l[:count+1]...); !bytes.Equal(got, want) || errno != api.OK {
			t.Fatalf("Join of the first %d has %d bytes, %d, not %d", count+1, len(got), errno, len(want))
		}
	}
	many := slices.Repeat(l, 20)
	if got, errno := Join(many...); !bytes.Equal(got, bytes.Repeat(want, 20)) || errno != api.OK {
		t.Errorf("Join of %d instructions has %d bytes, %d", len(many), len(got), errno)
	}
}

// P3.1: one that is not valid, in whatever place, spoils all.
func TestJoinOfNotValid(t *testing.T) {
	for _, bad := range invalid() {
		if got, errno := Join(bad); len(got) > 0 || errno != api.ErrForm {
			t.Errorf("Join(%+v) is %v, %d, not ErrForm", bad, got, errno)
		}
	}
	for _, bad := range []api.HInstr{{Op: 20}, {Op: -1}, {Op: 256}, {Op: api.HNop, Imm: 1}, {Op: api.HLi, Rd: 16}, {Op: api.HJmp, Ra: 1}} {
		for at := range 5 {
			l := slices.Repeat([]api.HInstr{{Op: api.HLi, Rd: 1, Imm: 7}}, 5)
			l[at] = bad
			if got, errno := Join(l...); len(got) > 0 || errno != api.ErrForm {
				t.Errorf("Join with %+v at %d is %v, %d, not ErrForm", bad, at, got, errno)
			}
		}
	}
}

func checkAll(t *testing.T, b []byte, want []api.HInstr, wantErrno api.Errno) {
	t.Helper()
	if l, errno := All(b); !slices.Equal(l, want) || errno != wantErrno {
		t.Errorf("All(%v) is %+v, %d, not %+v, %d", b, l, errno, want, wantErrno)
	}
}

// P3.1: All of code that is whole.
func TestAll(t *testing.T) {
	checkAll(t, nil, nil, api.OK)
	checkAll(t, []byte{}, nil, api.OK)
	checkAll(t, make([]byte, 8), []api.HInstr{{}}, api.OK)
	checkAll(t, make([]byte, 24), []api.HInstr{{}, {}, {}}, api.OK)
	for _, i := range valid() {
		checkAll(t, written(i), []api.HInstr{i}, api.OK)
	}
	many := slices.Repeat(valid(), 20)
	code, _ := Join(many...)
	if got, errno := All(code); !slices.Equal(got, many) || errno != api.OK {
		t.Errorf("All of %d instructions has %d, %d", len(many), len(got), errno)
	}
}

// P3.1: code cut off within an instruction is ErrEnd, whatever its last bytes are.
func TestAllCutOff(t *testing.T) {
	l := []api.HInstr{{Op: api.HLi, Rd: 3, Imm: 258}, {Op: api.HSt, Ra: 1, Rb: 2, Imm: 0xffffffff}, {Op: api.HNop}, {Op: api.HExit}}
	code, _ := Join(l...)
	for cut := range len(code) + 1 {
		if cut%8 == 0 {
			checkAll(t, code[:cut], l[:cut/8], api.OK)
		} else {
			checkAll(t, code[:cut], nil, api.ErrEnd)
		}
	}
	for left := 1; left < 8; left++ {
		checkAll(t, slices.Concat(code, bytes.Repeat([]byte{99}, left)), nil, api.ErrEnd)
	}
}

// P3.1: an instruction that is not valid is ErrForm, in whatever place, and comes before an end that is missing.
func TestAllOfNotValid(t *testing.T) {
	for _, bad := range [][]byte{{99, 0, 0, 0, 0, 0, 0, 0}, {20, 0, 0, 0, 0, 0, 0, 0}, {0, 0, 0, 0, 0, 0, 0, 1}, {1, 16, 0, 0, 0, 0, 0, 0}, {2, 0, 0, 1, 0, 0, 0, 0}} {
		for before := range 4 {
			for behind := range 20 {
				b := slices.Concat(make([]byte, 8*before), bad, make([]byte, behind))
				checkAll(t, b, nil, api.ErrForm)
			}
			for cut := 1; cut < 8; cut++ {
				checkAll(t, slices.Concat(make([]byte, 8*before), bad[:cut]), nil, api.ErrEnd)
			}
		}
	}
}

// P3.1: the steps are of eight bytes from the start: what would be an instruction at another place is none.
func TestAllSteps(t *testing.T) {
	code := []byte{0, 0, 0, 0, 1, 3, 0, 0, 2, 1, 0, 0, 0, 0, 0, 0}
	checkAll(t, code, nil, api.ErrForm)
	checkAll(t, code[4:12], []api.HInstr{{Op: api.HLi, Rd: 3, Imm: 258}}, api.OK)
}

// R5: bytes in the room behind the end are not read: they are no part of b.
func TestRoomIsNotRead(t *testing.T) {
	room := []byte{1, 3, 0, 0, 2, 1, 0, 0, 19, 0, 0, 0, 7, 0, 0, 0}
	for end := range 8 {
		checkDecode(t, room[:end], api.HInstr{}, api.ErrEnd)
	}
	checkDecode(t, room[:8], api.HInstr{Op: api.HLi, Rd: 3, Imm: 258}, api.OK)
	checkAll(t, room[:0], nil, api.OK)
	checkAll(t, room[:8], []api.HInstr{{Op: api.HLi, Rd: 3, Imm: 258}}, api.OK)
	checkAll(t, room[:12], nil, api.ErrEnd)
}

// P3.2: the name of each operation, and all four fields behind it.
func TestText(t *testing.T) {
	for _, i := range valid() {
		r, _ := rowOf(i.Op)
		want := r.name
		for _, n := range []int{i.Rd, i.Ra, i.Rb, int(i.Imm)} {
			want += " " + strconv.Itoa(n)
		}
		if got := Text(i); got != want {
			t.Errorf("Text(%+v) is %q, not %q", i, got, want)
		}
	}
	for _, i := range invalid() {
		if got := Text(i); got != "?" {
			t.Errorf("Text(%+v) is %q, not ?", i, got)
		}
	}
}

func TestTextKnownAnswers(t *testing.T) {
	for want, i := range map[string]api.HInstr{
		"nop 0 0 0 0":           {Op: api.HNop},
		"li 3 0 0 258":          {Op: api.HLi, Rd: 3, Imm: 258},
		"li 9 0 0 9":            {Op: api.HLi, Rd: 9, Imm: 9},
		"li 10 0 0 1000000000":  {Op: api.HLi, Rd: 10, Imm: 1000000000},
		"mov 1 2 0 0":           {Op: api.HMov, Rd: 1, Ra: 2},
		"ltu 1 2 3 0":           {Op: api.HLtu, Rd: 1, Ra: 2, Rb: 3},
		"ld 15 14 0 2147483648": {Op: api.HLd, Rd: 15, Ra: 14, Imm: 1 << 31},
		"st 0 1 2 4294967295":   {Op: api.HSt, Ra: 1, Rb: 2, Imm: 0xffffffff},
		"beqz 0 7 0 16":         {Op: api.HBeqz, Ra: 7, Imm: 16},
		"jmp 0 0 0 8":           {Op: api.HJmp, Imm: 8},
		"exit 0 0 0 0":          {Op: api.HExit},
	} {
		if got := Text(i); got != want {
			t.Errorf("Text(%+v) is %q, not %q", i, got, want)
		}
	}
}

// R2: nothing that is passed is changed or kept, the room behind it included, and what is returned is new each time.
func TestMemoryIsOnesOwn(t *testing.T) {
	room := []byte{1, 3, 0, 0, 2, 1, 0, 0, 19, 0, 0, 0, 7, 0, 0, 0, 9, 9, 9, 9, 9, 9, 9, 9}
	before := slices.Clone(room)
	want := []api.HInstr{{Op: api.HLi, Rd: 3, Imm: 258}, {Op: api.HExit, Imm: 7}}
	l, _ := All(room[:16])
	Decode(room[:8])
	if !bytes.Equal(room, before) {
		t.Errorf("the bytes became %v", room)
	}
	clear(room)
	if !slices.Equal(l, want) {
		t.Errorf("the instructions became %+v", l)
	}
	again, _ := All(before[:16])
	clear(again[:cap(again)])
	if l, _ := All(before[:16]); !slices.Equal(l, want) {
		t.Errorf("All left %+v", l)
	}

	list := append(slices.Clone(want), api.HInstr{Op: api.HDiv}, api.HInstr{Op: 99})
	listBefore := slices.Clone(list)
	first, _ := Join(list[:2]...)
	second, _ := Join(list[:2]...)
	clear(first[:cap(first)])
	if !slices.Equal(list, listBefore) || !bytes.Equal(second, before[:16]) {
		t.Errorf("Join left %+v and %v", list, second)
	}

	one, _ := Encode(want[0])
	other, _ := Encode(want[0])
	clear(one[:cap(one)])
	if !bytes.Equal(other, before[:8]) {
		t.Errorf("Encode left %v", other)
	}
}
