package hmach

import (
	"math"
	"math/big"
	"slices"
	"testing"

	"innkeeper/api"
)

func alu() []int {
	return []int{api.HAdd, api.HSub, api.HAnd, api.HOr, api.HXor, api.HShl, api.HShr, api.HMul, api.HDiv, api.HLtu, api.HEq}
}

func edgeNumbers() []uint64 {
	l := []uint64{0, 3, 5, 7, 10, 12, 63, 64, 65, 127, 128, 256, upper - 1, upper + 1, upper + 64, top - 1, top + 1, last - 1, last, 0x123456789abcdef0}
	for i := range 64 {
		l = append(l, 1<<i)
	}
	return l
}

// exact works a result out with numbers of any length, another way than the machine does.
func exact(op int, a, b uint64) uint64 {
	x, y := new(big.Int).SetUint64(a), new(big.Int).SetUint64(b)
	r := new(big.Int)
	switch op {
	case api.HMov:
		r = x
	case api.HAdd:
		r.Add(x, y)
	case api.HSub:
		r.Sub(x, y)
	case api.HMul:
		r.Mul(x, y)
	case api.HDiv:
		if b != 0 {
			r.Div(x, y)
		}
	case api.HShl:
		if b < 64 {
			r.Mul(x, new(big.Int).Exp(big.NewInt(2), y, nil))
		}
	case api.HShr:
		if b < 64 {
			r.Div(x, new(big.Int).Exp(big.NewInt(2), y, nil))
		}
	case api.HLtu:
		if x.Cmp(y) < 0 {
			r.SetInt64(1)
		}
	case api.HEq:
		if x.Cmp(y) == 0 {
			r.SetInt64(1)
		}
	default:
		r = bitwise(op, x, y)
	}
	// Mod of big numbers is never below 0.
	return r.Mod(r, new(big.Int).Lsh(big.NewInt(1), 64)).Uint64()
}

func bitwise(op int, x, y *big.Int) *big.Int {
	r := new(big.Int)
	for i := range 64 {
		p, q := x.Bit(i) == 1, y.Bit(i) == 1
		if op == api.HAnd && p && q || op == api.HOr && (p || q) || op == api.HXor && p != q {
			r.SetBit(r, i, 1)
		}
	}
	return r
}

// P4.2: each operation on registers, at the edges that the chapter names.
func TestOperationsKnownAnswers(t *testing.T) {
	for _, x := range []struct {
		name       string
		op         int
		a, b, want uint64
	}{
		{"add", api.HAdd, 2, 3, 5},
		{"add beyond a word", api.HAdd, upper - 1, 1, upper},
		{"add to exactly 2^64", api.HAdd, last, 1, 0},
		{"add beyond 2^64", api.HAdd, last, last, last - 1},
		{"sub", api.HSub, 7, 3, 4},
		{"sub to 0", api.HSub, 5, 5, 0},
		{"sub below 0", api.HSub, 0, 1, last},
		{"sub across a word", api.HSub, upper, 1, upper - 1},
		{"and", api.HAnd, 12, 10, 8},
		{"and above a word", api.HAnd, last, top + upper, top + upper},
		{"or", api.HOr, 12, 10, 14},
		{"or above a word", api.HOr, top, upper, top + upper},
		{"xor", api.HXor, 12, 10, 6},
		{"xor above a word", api.HXor, last, upper, last - upper},
		{"shl by 0", api.HShl, 3, 0, 3},
		{"shl", api.HShl, 3, 4, 48},
		{"shl beyond a word", api.HShl, 1, 32, upper},
		{"shl by 63", api.HShl, 3, 63, top},
		{"shl by 64", api.HShl, last, 64, 0},
		{"shl by 65", api.HShl, last, 65, 0},
		{"shl by 128", api.HShl, last, 128, 0},
		{"shl by 256", api.HShl, last, 256, 0},
		{"shl by 2^32", api.HShl, last, upper, 0},
		{"shl by 2^63", api.HShl, last, top, 0},
		{"shl by the last", api.HShl, last, last, 0},
		{"shr by 0", api.HShr, last, 0, last},
		{"shr", api.HShr, 48, 4, 3},
		{"shr shifts zeros in", api.HShr, last, 1, top - 1},
		{"shr by 63", api.HShr, last, 63, 1},
		{"shr by 64", api.HShr, last, 64, 0},
		{"shr by 65", api.HShr, last, 65, 0},
		{"shr by 128", api.HShr, last, 128, 0},
		{"shr by 2^32", api.HShr, last, upper, 0},
		{"shr by the last", api.HShr, last, last, 0},
		{"mul", api.HMul, 6, 7, 42},
		{"mul beyond a word", api.HMul, upper, 3, 3 * upper},
		{"mul to exactly 2^64", api.HMul, upper, upper, 0},
		{"mul of the last", api.HMul, last, last, 1},
		{"div", api.HDiv, 42, 6, 7},
		{"div rounds down", api.HDiv, 41, 6, 6},
		{"div to 0", api.HDiv, 5, 6, 0},
		{"div is unsigned", api.HDiv, last, 2, top - 1},
		{"div by the last", api.HDiv, last, last, 1},
		{"div by 0", api.HDiv, 7, 0, 0},
		{"div of 0 by 0", api.HDiv, 0, 0, 0},
		{"div of the last by 0", api.HDiv, last, 0, 0},
		{"ltu below", api.HLtu, 1, 2, 1},
		{"ltu equal", api.HLtu, 2, 2, 0},
		{"ltu above", api.HLtu, 3, 2, 0},
		{"ltu is unsigned", api.HLtu, 1, top, 1},
		{"ltu is unsigned, the other way", api.HLtu, last, 0, 0},
		{"ltu beyond a word", api.HLtu, 5, upper, 1},
		{"eq", api.HEq, 5, 5, 1},
		{"eq of the last", api.HEq, last, last, 1},
		{"eq beyond a word", api.HEq, 5, upper + 5, 0},
		{"eq not", api.HEq, 5, 6, 0},
		{"mov", api.HMov, 7, 9, 7},
		{"mov of the last", api.HMov, last, 9, last},
	} {
		i := api.HInstr{Op: x.op, Rd: 2, Ra: 3, Rb: 4}
		if x.op == api.HMov {
			i.Rb = 0
		}
		m := marked(t, 2, i)
		m.SetReg(3, x.a)
		m.SetReg(4, x.b)
		checkStep(t, x.name, m, api.Runs, lookAt(m).with(2, x.want).at(1))
		if want := exact(x.op, x.a, x.b); want != x.want {
			t.Errorf("%s: exact is %x", x.name, want)
		}
	}
}

// P4.2: each operation with numbers about all edges, nothing but Rd and the place being changed.
func TestOperationsAgainstExact(t *testing.T) {
	for _, op := range alu() {
		m := marked(t, 1, api.HInstr{Op: op, Rd: 5, Ra: 6, Rb: 7}, api.HInstr{Op: api.HJmp})
		for _, a := range edgeNumbers() {
			for _, b := range edgeNumbers() {
				m.SetReg(6, a)
				m.SetReg(7, b)
				before := lookAt(m)
				if m.Step() != api.Runs || !lookAt(m).equals(before.with(5, exact(op, a, b)).at(1)) {
					t.Fatalf("operation %d of %x, %x: register 5 is %x, not %x", op, a, b, m.Reg(5), exact(op, a, b))
				}
				m.Step()
			}
		}
	}
}

// P4.2: Rd, Ra and Rb may be the same register, all or two of them, from the first to the last.
func TestOperationsOnSameRegisters(t *testing.T) {
	for _, op := range append(alu(), api.HMov) {
		for _, r := range [][3]int{{0, 0, 0}, {15, 15, 15}, {1, 1, 2}, {1, 2, 1}, {1, 2, 2}, {0, 15, 0}, {15, 0, 15}, {15, 0, 1}, {0, 15, 14}} {
			for _, n := range [][2]uint64{{0, 0}, {1, 1}, {1, 0}, {upper, upper}, {upper, 3}, {3, upper}, {last, last}, {last, 1}, {1, last}, {9, 4}} {
				i := api.HInstr{Op: op, Rd: r[0], Ra: r[1], Rb: r[2]}
				if op == api.HMov {
					i.Rb = 0
				}
				m := marked(t, 1, i)
				m.SetReg(r[2], n[1])
				m.SetReg(r[1], n[0])
				a, b := m.Reg(r[1]), m.Reg(r[2])
				checkStep(t, "same registers", m, api.Runs, lookAt(m).with(r[0], exact(op, a, b)).at(1))
			}
		}
	}
}

// P4.2: HNop changes the place alone; HLi puts all of Imm, unsigned, over what there was.
func TestNopAndLi(t *testing.T) {
	m := marked(t, 2, api.HInstr{Op: api.HNop}, api.HInstr{Op: api.HNop})
	want := lookAt(m)
	checkStep(t, "nop", m, api.Runs, want.at(1))
	checkStep(t, "nop", m, api.Runs, want.at(2))
	for _, rd := range []int{0, 1, 14, 15} {
		for _, imm := range []uint32{0, 1, 255, 256, 0x12345678, 0x7fffffff, 0x80000000, 0xffffffff} {
			m := marked(t, 2, api.HInstr{Op: api.HLi, Rd: rd, Imm: imm})
			m.SetReg(rd, last)
			checkStep(t, "li", m, api.Runs, lookAt(m).with(rd, uint64(imm)).at(1))
		}
	}
}

// place is an index as HLd and HSt tell it, by what is in Ra and by Imm.
type place struct {
	ra  uint64
	imm uint32
}

// indexes are places in a memory, each with the index that it means.
func indexes(count int) map[place]int {
	end := uint64(count - 1)
	return map[place]int{
		{0, 0}:                               0,
		{end, 0}:                             count - 1,
		{0, uint32(end)}:                     count - 1,
		{end - end/2, uint32(end / 2)}:       count - 1,
		{last, 1}:                            0,
		{last, uint32(count)}:                count - 1,
		{last - upper + 2, 0xffffffff}:       0,
		{last - upper + 2 + end, 0xffffffff}: count - 1,
	}
}

// noIndexes are places behind the end of a memory, such among them whose lower bits are an index.
func noIndexes(count int) []place {
	n := uint64(count)
	return []place{
		{n, 0}, {0, uint32(n)}, {n - 1, 1}, {1, uint32(n-1) + 1}, {n + 1, 0},
		{last, 0}, {last - 1, 1}, {last, uint32(n) + 1}, {last - n + 1, uint32(n - 1)},
		{upper, 0}, {upper - 1, 1}, {1, 0xffffffff}, {0, 0xffffffff}, {upper - 1, 0xffffffff},
		{top, 0}, {top - 1, 1}, {top, 0xffffffff}, {1 << 31, 0}, {0, 1 << 31}, {1 << 31, 1 << 31}, {n << 32, 0}, {1 << 16, 1 << 16},
	}
}

// P4.2: HLd takes a word, unsigned, from the first, the last and from a sum that passes 2^64.
func TestLd(t *testing.T) {
	for _, count := range []int{1, 2, 7, 65536} {
		for p, want := range indexes(count) {
			for _, n := range []uint32{0, 1, 0x7fffffff, 0x80000000, 0xffffffff} {
				m := marked(t, count, api.HInstr{Op: api.HLd, Rd: 1, Ra: 2, Imm: p.imm})
				m.SetReg(2, p.ra)
				m.SetWord(want, n)
				checkStep(t, "ld", m, api.Runs, lookAt(m).with(1, uint64(n)).at(1))
			}
		}
	}
	m := marked(t, 9, api.HInstr{Op: api.HLd, Rd: 15, Ra: 15, Imm: 2})
	m.SetReg(15, 6)
	m.SetWord(8, 0xfedcba98)
	checkStep(t, "ld over Ra", m, api.Runs, lookAt(m).with(15, 0xfedcba98).at(1))
}

// P4.2: HSt puts the lowest 32 bits of Rb into a word: the first, the last and one at a sum that passes 2^64.
func TestSt(t *testing.T) {
	for _, count := range []int{1, 2, 7, 65536} {
		for p, want := range indexes(count) {
			for _, n := range []uint64{0, 1, upper - 1, upper, upper + 5, top, last, 0x1234567890abcdef} {
				m := marked(t, count, api.HInstr{Op: api.HSt, Ra: 2, Rb: 3, Imm: p.imm})
				m.SetReg(2, p.ra)
				m.SetReg(3, n)
				checkStep(t, "st", m, api.Runs, lookAt(m).withWord(want, uint32(n%upper)).at(1))
			}
		}
	}
	m := marked(t, 9, api.HInstr{Op: api.HSt, Ra: 15, Rb: 15, Imm: 2})
	m.SetReg(15, 6)
	checkStep(t, "st of Ra", m, api.Runs, lookAt(m).withWord(8, 6).at(1))
}

// P4.2: BadPlace where there is no word, all staying as it was, and going on once there is one.
func TestBadPlace(t *testing.T) {
	for _, count := range []int{1, 2, 7, 65536} {
		for _, p := range noIndexes(count) {
			m := marked(t, count, api.HInstr{Op: api.HNop}, api.HInstr{Op: api.HLd, Rd: 1, Ra: 2, Imm: p.imm}, api.HInstr{Op: api.HSt, Ra: 2, Rb: 3, Imm: p.imm})
			m.SetReg(2, p.ra)
			checkRun(t, "ld", m, 9, api.BadPlace, 0, 1)
			if m.At() != 1 {
				t.Errorf("ld of no word: the place is %d", m.At())
			}
			checkBad(t, "ld", m)
			m.SetReg(2, -uint64(p.imm))
			checkStep(t, "ld of a word", m, api.Runs, lookAt(m).with(1, 0x44440000).at(2))
			m.SetReg(2, p.ra)
			checkBad(t, "st", m)
		}
	}
}

func checkBad(t *testing.T, what string, m *Machine) {
	t.Helper()
	want := lookAt(m)
	for range 2 {
		checkStep(t, what, m, api.BadPlace, want)
		checkRun(t, what, m, 7, api.BadPlace, 0, 0)
		checkLook(t, what, m, want)
	}
}

// P4.2: BadPlace, asked over and over by Step and by Run.
func TestBadPlaceStays(t *testing.T) {
	for _, i := range []api.HInstr{{Op: api.HLd, Rd: 1, Ra: 1, Imm: 5}, {Op: api.HSt, Ra: 1, Rb: 1, Imm: 5}} {
		m := marked(t, 5, i, api.HInstr{Op: api.HExit, Imm: 7})
		m.SetReg(1, 0)
		checkStop(t, "bad place", m, api.BadPlace, 0)
		m.SetReg(1, 5)
		checkStop(t, "bad place", m, api.BadPlace, 0)
		m.SetReg(1, last)
		m.SetWord(4, 0xffffffff)
		checkRun(t, "a word then", m, 9, api.Exited, 7, 1)
	}
}

// P4.2: jumps taken: back, to the jump itself, on, to the end of the code and behind it.
func TestJumpsTaken(t *testing.T) {
	for _, imm := range []uint32{0, 1, 2, 3, 4, 5, 255, 256, 65536, 0x7fffffff, 0x80000000, 0xffffffff} {
		for _, x := range []struct {
			op int
			n  uint64
		}{
			{api.HJmp, 0}, {api.HJmp, 1},
			{api.HBeqz, 0},
			{api.HBnez, 1}, {api.HBnez, upper}, {api.HBnez, top}, {api.HBnez, last},
		} {
			m := jumper(t, x.op, imm, x.n)
			checkStep(t, "a jump", m, api.Runs, lookAt(m).at(int(imm)))
			if imm >= 4 {
				checkStop(t, "a jump out of the code", m, api.BadCode, 0)
			}
		}
	}
}

// P4.2: jumps not taken go on to the next instruction, wherever they would go.
func TestJumpsNotTaken(t *testing.T) {
	for _, imm := range []uint32{0, 1, 2, 3, 4, 5, 0x7fffffff, 0x80000000, 0xffffffff} {
		for _, x := range []struct {
			op int
			n  uint64
		}{
			{api.HBeqz, 1}, {api.HBeqz, upper}, {api.HBeqz, top}, {api.HBeqz, last}, {api.HBnez, 0},
		} {
			m := jumper(t, x.op, imm, x.n)
			checkStep(t, "no jump", m, api.Runs, lookAt(m).at(2))
			checkStep(t, "behind it", m, api.Runs, lookAt(m).with(9, 9).at(3))
		}
	}
}

// jumper stands at a jump, the second of four instructions, with n in the register that it asks, the last one.
func jumper(t *testing.T, op int, imm uint32, n uint64) *Machine {
	t.Helper()
	i := api.HInstr{Op: op, Ra: 15, Imm: imm}
	if op == api.HJmp {
		i.Ra = 0
	}
	m := marked(t, 2, api.HInstr{Op: api.HNop}, i, api.HInstr{Op: api.HLi, Rd: 9, Imm: 9}, api.HInstr{Op: api.HNop})
	m.SetReg(15, n)
	m.Step()
	return m
}

// P4.2: BadCode where there is no instruction: no code, and the end of it.
func TestBadCode(t *testing.T) {
	checkStop(t, "no code", marked(t, 2), api.BadCode, 0)
	m := marked(t, 2, api.HInstr{Op: api.HNop}, api.HInstr{Op: api.HLi, Rd: 1})
	checkRun(t, "to the end", m, 9, api.BadCode, 0, 2)
	if m.At() != 2 {
		t.Errorf("the end is %d", m.At())
	}
	checkStop(t, "the end", m, api.BadCode, 0)
}

// P4.2: Exited with the Imm of the HExit, the place staying at it.
func TestExited(t *testing.T) {
	for _, imm := range []uint32{0, 1, 7, 0x80000000, 0xffffffff} {
		checkStop(t, "exit first", marked(t, 2, api.HInstr{Op: api.HExit, Imm: imm}), api.Exited, imm)
		m := marked(t, 2, api.HInstr{Op: api.HJmp, Imm: 2}, api.HInstr{Op: api.HExit, Imm: 99}, api.HInstr{Op: api.HExit, Imm: imm}, api.HInstr{Op: api.HExit, Imm: 98})
		checkRun(t, "exit", m, 9, api.Exited, imm, 1)
		if m.At() != 2 {
			t.Errorf("exit: the place is %d", m.At())
		}
		checkStop(t, "exit", m, api.Exited, imm)
	}
}

// The chapter's examples.
func TestExamples(t *testing.T) {
	m := empty(t, 1)
	load(t, m, api.HInstr{Op: api.HLi, Rd: 1, Imm: 5}, api.HInstr{Op: api.HExit, Imm: 7})
	checkRun(t, "li, exit", m, 9, api.Exited, 7, 1)
	checkLook(t, "li, exit", m, look{count: 1, words: []uint32{0}}.with(1, 5).at(1))
	checkRun(t, "no code", empty(t, 1), 9, api.BadCode, 0, 0)
	loop := empty(t, 1)
	load(t, loop, api.HInstr{Op: api.HJmp})
	checkRun(t, "a jump to itself", loop, 9, api.NoSteps, 0, 9)
}

// counting counts register 1 down from n by register 2, puts what is left into word 0 each time, and exits with 6.
func counting(t *testing.T, n uint32) *Machine {
	t.Helper()
	m := empty(t, 2)
	load(t, m,
		api.HInstr{Op: api.HLi, Rd: 1, Imm: n},
		api.HInstr{Op: api.HLi, Rd: 2, Imm: 1},
		api.HInstr{Op: api.HSub, Rd: 1, Ra: 1, Rb: 2},
		api.HInstr{Op: api.HSt, Ra: 0, Rb: 1},
		api.HInstr{Op: api.HBnez, Ra: 1, Imm: 2},
		api.HInstr{Op: api.HExit, Imm: 6})
	return m
}

// P4.2: Run of fewer steps than there are, of just as many, and of more.
func TestRunSteps(t *testing.T) {
	const all = 2 + 3*4
	for _, steps := range []int{math.MinInt, math.MinInt32, -2, -1, 0} {
		m := counting(t, 4)
		want := lookAt(m)
		checkRun(t, "none", m, steps, api.NoSteps, 0, 0)
		checkLook(t, "none", m, want)
	}
	for steps := 1; steps <= all; steps++ {
		m, stepped := counting(t, 4), counting(t, 4)
		checkRun(t, "some", m, steps, api.NoSteps, 0, steps)
		for range steps {
			checkStep(t, "some", stepped, api.Runs, afterStep(t, stepped))
		}
		checkLook(t, "some", m, lookAt(stepped))
	}
	for _, steps := range []int{all + 1, all + 2, 1000, math.MaxInt32, math.MaxInt} {
		m := counting(t, 4)
		checkRun(t, "more", m, steps, api.Exited, 6, all)
		checkLook(t, "more", m, look{count: 2, words: []uint32{0, 0}}.with(2, 1).at(5))
		checkStop(t, "more", m, api.Exited, 6)
	}
}

// afterStep is what the chapter says of the instructions of counting.
func afterStep(t *testing.T, m *Machine) look {
	t.Helper()
	l := lookAt(m)
	switch l.place {
	case 0:
		return l.with(1, 4).at(1)
	case 1:
		return l.with(2, 1).at(2)
	case 2:
		return l.with(1, l.regs[1]-1).at(3)
	case 3:
		return l.withWord(0, uint32(l.regs[1])).at(4)
	case 4:
		if l.regs[1] != 0 {
			return l.at(2)
		}
		return l.at(5)
	}
	t.Fatalf("the place is %d", l.place)
	return l
}

// P4.2: Run in two pieces does what Run in one does.
func TestRunInPieces(t *testing.T) {
	const all = 2 + 3*4
	for cut := range all + 3 {
		one, two := counting(t, 4), counting(t, 4)
		if cut <= all {
			checkRun(t, "first piece", two, cut, api.NoSteps, 0, cut)
		} else {
			checkRun(t, "first piece", two, cut, api.Exited, 6, all)
		}
		checkRun(t, "second piece", two, 100, api.Exited, 6, max(0, all-cut))
		checkRun(t, "in one", one, 100, api.Exited, 6, all)
		checkLook(t, "in two", two, lookAt(one))
	}
	loop := marked(t, 1, api.HInstr{Op: api.HNop}, api.HInstr{Op: api.HBeqz, Ra: 0, Imm: 1})
	loop.SetReg(0, 0)
	want := lookAt(loop)
	checkRun(t, "a loop", loop, 1000, api.NoSteps, 0, 1000)
	checkRun(t, "a loop", loop, 77, api.NoSteps, 0, 77)
	checkLook(t, "a loop", loop, want.at(1))
}

// P4.2: a long code runs to its end, each instruction once.
func TestLongCode(t *testing.T) {
	l := slices.Repeat([]api.HInstr{{Op: api.HAdd, Rd: 1, Ra: 1, Rb: 2}}, 70000)
	m := empty(t, 1)
	load(t, m, l...)
	m.SetReg(2, 3)
	checkRun(t, "long", m, math.MaxInt, api.BadCode, 0, 70000)
	checkLook(t, "long", m, look{count: 1, words: []uint32{0}}.with(1, 210000).with(2, 3).at(70000))
}
