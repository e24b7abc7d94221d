package hmach

import (
	"bytes"
	"math"
	"slices"
	"testing"

	"innkeeper/api"
	"innkeeper/hcode"
)

const (
	last  = uint64(math.MaxUint64)
	upper = uint64(1) << 32 // the first number that is no word
	top   = uint64(1) << 63
)

// look is all that can be seen of a machine.
type look struct {
	place, count int
	regs         [16]uint64
	words        []uint32
}

func lookAt(m *Machine) look {
	l := look{place: m.At(), count: m.Words()}
	for i := range l.regs {
		l.regs[i] = m.Reg(i)
	}
	for i := range l.count {
		l.words = append(l.words, m.Word(i))
	}
	return l
}

func (l look) equals(o look) bool {
	return l.place == o.place && l.count == o.count && l.regs == o.regs && slices.Equal(l.words, o.words)
}

// with is l with n in a register.
func (l look) with(reg int, n uint64) look {
	l.regs[reg] = n
	return l
}

// withWord is l with n in a memory word.
func (l look) withWord(i int, n uint32) look {
	l.words = slices.Clone(l.words)
	l.words[i] = n
	return l
}

// at is l at another place.
func (l look) at(place int) look {
	l.place = place
	return l
}

func codeOf(t *testing.T, l ...api.HInstr) []byte {
	t.Helper()
	code, errno := hcode.Join(l...)
	if errno != api.OK {
		t.Fatalf("Join(%+v): %d", l, errno)
	}
	return code
}

func empty(t *testing.T, words int) *Machine {
	t.Helper()
	m, errno := New(words)
	if errno != api.OK || m == nil {
		t.Fatalf("New(%d): %d", words, errno)
	}
	return m
}

func load(t *testing.T, m *Machine, l ...api.HInstr) {
	t.Helper()
	if errno := m.Load(codeOf(t, l...)); errno != api.OK {
		t.Fatalf("Load(%+v): %d", l, errno)
	}
}

// marked is a machine with code and a number of its own in each register and word, so that a change anywhere is seen.
func marked(t *testing.T, words int, l ...api.HInstr) *Machine {
	t.Helper()
	m := empty(t, words)
	load(t, m, l...)
	for i := range 16 {
		m.SetReg(i, 0x1111_2222_3333_0000+uint64(i))
	}
	for i := range words {
		m.SetWord(i, 0x44440000+uint32(i))
	}
	return m
}

func checkLook(t *testing.T, what string, m *Machine, want look) {
	t.Helper()
	if got := lookAt(m); !got.equals(want) {
		t.Errorf("%s: the machine is %+v, not %+v", what, got, want)
	}
}

// checkStep steps once.
func checkStep(t *testing.T, what string, m *Machine, how int, want look) {
	t.Helper()
	if got := m.Step(); got != how {
		t.Errorf("%s: Step is %d, not %d", what, got, how)
	}
	checkLook(t, what, m, want)
}

// checkStop asks by Step and by Run, over and over, where nothing more can be done.
func checkStop(t *testing.T, what string, m *Machine, how int, imm uint32) {
	t.Helper()
	want := lookAt(m)
	for range 3 {
		checkStep(t, what, m, how, want)
		checkRun(t, what, m, 0, api.NoSteps, 0, 0)
		checkRun(t, what, m, -1, api.NoSteps, 0, 0)
		for _, steps := range []int{1, 2, 1000, math.MaxInt} {
			checkRun(t, what, m, steps, how, imm, 0)
			checkLook(t, what, m, want)
		}
	}
}

func checkRun(t *testing.T, what string, m *Machine, steps, how int, imm uint32, done int) {
	t.Helper()
	gotHow, gotImm, gotDone := m.Run(steps)
	if gotHow != how || gotImm != imm || gotDone != done {
		t.Errorf("%s: Run(%d) is %d, %d, %d, not %d, %d, %d", what, steps, gotHow, gotImm, gotDone, how, imm, done)
	}
}

// wrongIndexes are no indexes of so many things, such among them whose lower bits are.
func wrongIndexes(count int) []int {
	return []int{-1, -2, -count, count, count + 1, count + 1<<16, 1 << 31, 1 << 32, 1<<32 + 1, -1 << 32, math.MinInt, math.MaxInt, math.MinInt32}
}

// P4.1: how many words there may be, and what a new machine is.
func TestNew(t *testing.T) {
	for _, words := range []int{math.MinInt, math.MinInt32, -65536, -2, -1, 0, 65537, 65538, 131072, 1 << 31, 1<<32 + 1, math.MaxInt} {
		if m, errno := New(words); m != nil || errno != api.ErrArg {
			t.Errorf("New(%d): %d, not ErrArg", words, errno)
		}
	}
	for _, words := range []int{1, 2, 15, 16, 17, 256, 65535, 65536} {
		m := empty(t, words)
		if len(lookAt(m).words) != words {
			t.Errorf("New(%d) has %d words", words, m.Words())
		}
		checkLook(t, "new", m, look{count: words, words: make([]uint32, words)})
		checkStop(t, "new", m, api.BadCode, 0)
	}
}

// P4.1: registers from 0 to 15, each for itself, and no others.
func TestRegs(t *testing.T) {
	m := marked(t, 2, api.HInstr{Op: api.HNop})
	want := lookAt(m)
	for i := range 16 {
		for _, n := range []uint64{0, 1, upper - 1, upper, top, last, uint64(i) + 7} {
			if !m.SetReg(i, n) || m.Reg(i) != n {
				t.Errorf("register %d is %x, not %x", i, m.Reg(i), n)
			}
			want = want.with(i, n)
			checkLook(t, "SetReg", m, want)
		}
	}
	for _, i := range wrongIndexes(16) {
		if m.SetReg(i, 9) || m.Reg(i) != 0 {
			t.Errorf("there is a register %d", i)
		}
		checkLook(t, "SetReg of none", m, want)
	}
}

// P4.1: memory words from 0 to the last one, each for itself, and no others, whatever their number is.
func TestWords(t *testing.T) {
	for _, count := range []int{1, 2, 17, 256, 65536} {
		m := marked(t, count, api.HInstr{Op: api.HNop})
		want := lookAt(m)
		for _, i := range []int{0, count / 2, count - 1} {
			for _, n := range []uint32{0, 1, 0x7fffffff, 0x80000000, 0xffffffff, uint32(i) + 7} {
				if !m.SetWord(i, n) || m.Word(i) != n {
					t.Errorf("word %d of %d is %x, not %x", i, count, m.Word(i), n)
				}
				want = want.withWord(i, n)
			}
			checkLook(t, "SetWord", m, want)
		}
		for _, i := range wrongIndexes(count) {
			if m.SetWord(i, 9) || m.Word(i) != 0 {
				t.Errorf("there is a word %d of %d", i, count)
			}
		}
		checkLook(t, "SetWord of none", m, want)
	}
}

// P4.1: registers and words are a machine's own.
func TestMachinesApart(t *testing.T) {
	one := marked(t, 3, api.HInstr{Op: api.HLi, Rd: 1, Imm: 5}, api.HInstr{Op: api.HSt, Ra: 0, Rb: 1})
	other := marked(t, 3, api.HInstr{Op: api.HExit, Imm: 3})
	one.SetReg(0, 0)
	want := lookAt(other)
	checkRun(t, "one", one, 9, api.BadCode, 0, 2)
	one.SetReg(7, 7)
	one.SetWord(2, 7)
	load(t, one, api.HInstr{Op: api.HNop})
	checkLook(t, "the other", other, want)
	checkStop(t, "the other", other, api.Exited, 3)
}

// faults are bytes that Load refuses, with the error of hcode.All.
func faults(t *testing.T) map[string]struct {
	code  []byte
	errno api.Errno
} {
	right := codeOf(t, api.HInstr{Op: api.HLi, Rd: 9, Imm: 9}, api.HInstr{Op: api.HNop})
	return map[string]struct {
		code  []byte
		errno api.Errno
	}{
		"one byte":                    {[]byte{0}, api.ErrEnd},
		"seven bytes":                 {right[:7], api.ErrEnd},
		"cut off within the second":   {right[:9], api.ErrEnd},
		"cut off ahead of the last":   {right[:15], api.ErrEnd},
		"bytes behind the end":        {append(slices.Clone(right), 99), api.ErrEnd},
		"no operation":                {[]byte{20, 0, 0, 0, 0, 0, 0, 0}, api.ErrForm},
		"no register":                 {[]byte{1, 16, 0, 0, 0, 0, 0, 0}, api.ErrForm},
		"a field that is not used":    {[]byte{0, 0, 0, 0, 1, 0, 0, 0}, api.ErrForm},
		"not valid behind right code": {append(slices.Clone(right), 255, 0, 0, 0, 0, 0, 0, 0), api.ErrForm},
		"not valid ahead of the end":  {[]byte{255, 0, 0, 0, 0, 0, 0, 0, 1}, api.ErrForm},
	}
}

// P4.1: a Load that is refused leaves all as it was: ahead of right code, and behind such that ran part of its way or to its end.
func TestLoadRefused(t *testing.T) {
	code := []api.HInstr{{Op: api.HLi, Rd: 1, Imm: 5}, {Op: api.HSt, Ra: 0, Rb: 1, Imm: 1}, {Op: api.HExit, Imm: 7}}
	for name, x := range faults(t) {
		bare := empty(t, 4)
		checkRefused(t, name, bare, x.code, x.errno)
		checkStop(t, name, bare, api.BadCode, 0)
		load(t, bare, code...)
		checkRun(t, name, bare, 9, api.Exited, 7, 2)
		for ran := range 4 {
			m := empty(t, 4)
			load(t, m, code...)
			m.Run(ran)
			checkRefused(t, name, m, x.code, x.errno)
			checkRun(t, name, m, 9, api.Exited, 7, max(0, 2-ran))
			checkLook(t, name, m, look{count: 4, words: make([]uint32, 4)}.with(1, 5).withWord(1, 5).at(2))
		}
	}
}

func checkRefused(t *testing.T, what string, m *Machine, code []byte, errno api.Errno) {
	t.Helper()
	want := lookAt(m)
	for range 2 {
		if got := m.Load(code); got != errno {
			t.Errorf("%s: Load is %d, not %d", what, got, errno)
		}
		checkLook(t, what, m, want)
	}
}

// P4.1: Load of nothing is right: no code is left, the rest is.
func TestLoadOfNothing(t *testing.T) {
	for _, nothing := range [][]byte{nil, {}} {
		m := marked(t, 3, api.HInstr{Op: api.HNop}, api.HInstr{Op: api.HNop}, api.HInstr{Op: api.HNop})
		want := lookAt(m)
		m.Run(2)
		if errno := m.Load(nothing); errno != api.OK {
			t.Errorf("Load of nothing: %d", errno)
		}
		checkLook(t, "nothing", m, want.at(0))
		checkStop(t, "nothing", m, api.BadCode, 0)
	}
}

// P4.1: Load of right code replaces what there was, longer or shorter, and begins at 0; registers and words stay.
func TestLoadReplaces(t *testing.T) {
	long := []api.HInstr{{Op: api.HLi, Rd: 1, Imm: 5}, {Op: api.HLi, Rd: 2, Imm: 6}, {Op: api.HSt, Ra: 3, Rb: 2}, {Op: api.HJmp, Imm: 900}}
	short := []api.HInstr{{Op: api.HNop}, {Op: api.HExit, Imm: 8}}
	m := marked(t, 3, long...)
	m.SetReg(3, 2)
	want := lookAt(m)
	checkRun(t, "long", m, 9, api.BadCode, 0, 4)
	want = want.with(1, 5).with(2, 6).withWord(2, 6)
	checkLook(t, "long", m, want.at(900))
	load(t, m, short...)
	checkLook(t, "short", m, want.at(0))
	checkRun(t, "short", m, 9, api.Exited, 8, 1)
	checkLook(t, "short", m, want.at(1))
	load(t, m, short...)
	checkLook(t, "short again", m, want.at(0))
	load(t, m, long...)
	checkRun(t, "long again", m, 3, api.NoSteps, 0, 3)
	checkLook(t, "long again", m, want.at(3))
}

// R2: the bytes of the code are neither changed nor kept, the room behind them is neither read nor written.
func TestLoadKeepsNoBytes(t *testing.T) {
	room := append(codeOf(t, api.HInstr{Op: api.HLi, Rd: 1, Imm: 5}, api.HInstr{Op: api.HExit, Imm: 7}), 99, 98, 97)
	before := slices.Clone(room)
	m := empty(t, 1)
	if errno := m.Load(room[:16]); errno != api.OK {
		t.Errorf("Load: %d", errno)
	}
	m.Run(1)
	if !bytes.Equal(room, before) {
		t.Errorf("the bytes became %v", room)
	}
	clear(room)
	checkRun(t, "bytes gone", m, 9, api.Exited, 7, 0)
	if m.Reg(1) != 5 {
		t.Errorf("register 1 is %x", m.Reg(1))
	}
}
