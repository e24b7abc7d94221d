package hcode

import (
	"strconv"

	"innkeeper/api"
)

const notValid = "?"

// Text is the name of i and all its fields, used or not; `?` if i is not valid.
func Text(i api.HInstr) string {
	if !Right(i) {
		return notValid
	}
	text := name(i.Op)
	for _, n := range []uint64{uint64(i.Rd), uint64(i.Ra), uint64(i.Rb), uint64(i.Imm)} {
		text += " " + strconv.FormatUint(n, 10)
	}
	return text
}

func name(op int) string {
	switch op {
	case api.HNop:
		return "nop"
	case api.HLi:
		return "li"
	case api.HMov:
		return "mov"
	case api.HAdd:
		return "add"
	case api.HSub:
		return "sub"
	case api.HAnd:
		return "and"
	case api.HOr:
		return "or"
	case api.HXor:
		return "xor"
	case api.HShl:
		return "shl"
	case api.HShr:
		return "shr"
	case api.HMul:
		return "mul"
	case api.HDiv:
		return "div"
	case api.HLtu:
		return "ltu"
	case api.HEq:
		return "eq"
	case api.HLd:
		return "ld"
	case api.HSt:
		return "st"
	case api.HBeqz:
		return "beqz"
	case api.HBnez:
		return "bnez"
	case api.HJmp:
		return "jmp"
	case api.HExit:
		return "exit"
	}
	return notValid
}
