package mmu

import (
	"innkeeper/api"
)

const widest = 4 // bytes of an access

// spread is where the bytes of an access are: as many as there is room for from first on, the others from second on.
type spread struct {
	first, second uint32
	room          uint32
}

// Load is the n bytes from va on, the least significant first, or the trap that keeps them from being read.
func (u *Unit) Load(s Space, va uint32, n int) (uint32, api.Trap) {
	where, trap := u.find(s, va, n, api.Load)
	if trap.Cause != 0 {
		return 0, trap
	}
	v := uint32(0)
	for i := range uint32(n) {
		b, _ := u.memory.Byte(where.at(i))
		v |= uint32(b) << (8 * i)
	}
	return v, api.Trap{}
}

// Store sets the n bytes from va on to the lowest ones of v, the least significant first, or none of them beside a trap.
func (u *Unit) Store(s Space, va, v uint32, n int) api.Trap {
	where, trap := u.find(s, va, n, api.Store)
	if trap.Cause != 0 {
		return trap
	}
	for i := range uint32(n) {
		u.memory.Put(where.at(i), byte(v>>(8*i)))
	}
	return api.Trap{}
}

// find is where the n bytes from va on are, all of them in the memory, or the first trap that keeps one from being reached.
// Both pages are translated ahead of any byte: what a Store writes may be the second page's own entry.
func (u *Unit) find(s Space, va uint32, n, kind int) (spread, api.Trap) {
	if n < 1 || n > widest {
		return spread{}, refusal(va)
	}
	where := spread{room: api.PageSize - va%api.PageSize}
	next, crosses := va+where.room, uint32(n) > where.room
	var trap api.Trap
	if where.first, trap = u.Place(s, va, kind); trap.Cause != 0 {
		return spread{}, trap
	}
	if crosses {
		if where.second, trap = u.Place(s, next, kind); trap.Cause != 0 {
			return spread{}, trap
		}
	}
	if isDevice(where.first) {
		return spread{}, refusal(va)
	}
	if crosses && isDevice(where.second) {
		return spread{}, refusal(next)
	}
	return where, api.Trap{}
}

// at is the physical address of the i-th byte.
func (w spread) at(i uint32) uint32 {
	if i < w.room {
		return w.first + i
	}
	return w.second + i - w.room
}
