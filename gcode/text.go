package gcode

import (
	"strconv"

	"innkeeper/api"
)

const notValid = "?"

// Text is the name of i, with N if it has one; `?` if i is not valid.
func Text(i api.Instr) string {
	if !Right(i) {
		return notValid
	}
	if Size(i.Op) == 1 {
		return name(i.Op)
	}
	return name(i.Op) + " " + strconv.FormatUint(uint64(i.N), 10)
}

func name(op int) string {
	switch {
	case within(op, api.Nop, api.FromR):
		return stackName(op)
	case within(op, api.Add, api.Cmp):
		return wordName(op)
	case within(op, api.Jmp, api.JmpI):
		return jumpName(op)
	case within(op, api.Ld, api.StB):
		return memoryName(op)
	case within(op, api.Sys, api.Halt):
		return systemName(op)
	}
	return notValid
}

func stackName(op int) string {
	switch op {
	case api.Nop:
		return "nop"
	case api.Lit8:
		return "lit8"
	case api.Lit32:
		return "lit32"
	case api.Dup:
		return "dup"
	case api.Drop:
		return "drop"
	case api.Swap:
		return "swap"
	case api.Over:
		return "over"
	case api.ToR:
		return "tor"
	case api.FromR:
		return "fromr"
	}
	return notValid
}

func wordName(op int) string {
	switch op {
	case api.Add:
		return "add"
	case api.Sub:
		return "sub"
	case api.And:
		return "and"
	case api.Or:
		return "or"
	case api.Xor:
		return "xor"
	case api.Shl:
		return "shl"
	case api.Shr:
		return "shr"
	case api.Mul:
		return "mul"
	case api.Div:
		return "div"
	case api.Cmp:
		return "cmp"
	}
	return notValid
}

func jumpName(op int) string {
	switch op {
	case api.Jmp:
		return "jmp"
	case api.Jz:
		return "jz"
	case api.Jnz:
		return "jnz"
	case api.Jc:
		return "jc"
	case api.Jn:
		return "jn"
	case api.Jv:
		return "jv"
	case api.Call:
		return "call"
	case api.Ret:
		return "ret"
	case api.JmpI:
		return "jmpi"
	}
	return notValid
}

func memoryName(op int) string {
	switch op {
	case api.Ld:
		return "ld"
	case api.St:
		return "st"
	case api.LdU:
		return "ldu"
	case api.StU:
		return "stu"
	case api.LdB:
		return "ldb"
	case api.StB:
		return "stb"
	}
	return notValid
}

func systemName(op int) string {
	switch op {
	case api.Sys:
		return "sys"
	case api.Iret:
		return "iret"
	case api.CsrR:
		return "csrr"
	case api.CsrW:
		return "csrw"
	case api.Tlbi:
		return "tlbi"
	case api.Halt:
		return "halt"
	}
	return notValid
}
