package hmach

import (
	"innkeeper/api"
)

// Run steps until something other than Runs comes, at most so many times: what came last, the Imm of the HExit, and how many steps returned Runs.
func (m *Machine) Run(steps int) (int, uint32, int) {
	for done := 0; done < steps; done++ {
		how := m.Step()
		if how == api.Exited {
			return how, m.code[m.place].Imm, done
		}
		if how != api.Runs {
			return how, 0, done
		}
	}
	return api.NoSteps, 0, max(steps, 0)
}

// Step executes the instruction at the place, or tells why it can't be and leaves the machine as it was.
func (m *Machine) Step() int {
	if uint64(m.place) >= uint64(len(m.code)) {
		return api.BadCode
	}
	i := m.code[m.place]
	a, b := m.regs[i.Ra], m.regs[i.Rb]
	next := m.place + 1
	switch i.Op {
	case api.HNop:
	case api.HLi:
		m.regs[i.Rd] = uint64(i.Imm)
	case api.HLd:
		at := a + uint64(i.Imm)
		if !m.reaches(at) {
			return api.BadPlace
		}
		m.regs[i.Rd] = uint64(m.words[at])
	case api.HSt:
		at := a + uint64(i.Imm)
		if !m.reaches(at) {
			return api.BadPlace
		}
		m.words[at] = uint32(b)
	case api.HBeqz:
		if a == 0 {
			next = i.Imm
		}
	case api.HBnez:
		if a != 0 {
			next = i.Imm
		}
	case api.HJmp:
		next = i.Imm
	case api.HExit:
		return api.Exited
	default:
		m.regs[i.Rd] = result(i.Op, a, b)
	}
	m.place = next
	return api.Runs
}

// reaches asks the sum in all its 64 bits, so that a great one is not taken for a negative index.
func (m *Machine) reaches(at uint64) bool {
	return at < uint64(len(m.words))
}

// result is what an operation that only works on registers puts into Rd.
func result(op int, a, b uint64) uint64 {
	switch op {
	case api.HMov:
		return a
	case api.HAdd:
		return a + b
	case api.HSub:
		return a - b
	case api.HAnd:
		return a & b
	case api.HOr:
		return a | b
	case api.HXor:
		return a ^ b
	case api.HShl:
		return a << b
	case api.HShr:
		return a >> b
	case api.HMul:
		return a * b
	case api.HDiv:
		if b == 0 {
			return 0
		}
		return a / b
	case api.HLtu:
		return number(a < b)
	case api.HEq:
		return number(a == b)
	}
	return 0
}

func number(is bool) uint64 {
	if is {
		return 1
	}
	return 0
}
