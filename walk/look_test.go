package walk_test

import (
	"fmt"
	"math"
	"slices"
	"testing"

	"innkeeper/api"
	"innkeeper/frames"
	"innkeeper/nested"
	"innkeeper/ram"
	"innkeeper/walk"
)

// The bits of an entry, the kinds, and the causes, as the document and package api number them.
const (
	valid    = 1
	read     = 2
	write    = 4
	exec     = 8
	user     = 16
	accessed = 32
	dirty    = 64
	spare    = 128 // no meaning

	fetch = 1
	load  = 2
	store = 3

	fetchFault = 7
	loadFault  = 8
	storeFault = 9
	access     = 10

	size  = 64      // bytes of a page
	space = 1 << 14 // virtual addresses
	most  = 64      // pages of a guest
)

// kinds is the kinds that there are.
var kinds = []int{fetch, load, store}

// supers is whether an access is a supervisor's, both ways.
var supers = []bool{false, true}

// noKinds is numbers that no kind has.
func noKinds() []int {
	return []int{math.MinInt, math.MinInt32, -3, -2, -1, 0, 4, 5, 6, 7, 8, 9, 16, 255, 256 + load, 1<<32 + store, math.MaxInt32, math.MaxInt}
}

// guest is a memory of which a test keeps the bytes that it must have.
type guest struct {
	memory *ram.Memory
	table  *nested.Table
	bytes  []byte
}

// made is a new memory of so many pages.
func made(t *testing.T, pages int) *guest {
	t.Helper()
	p := frames.New()
	x, _ := nested.New(p, 0, pages)
	m, errno := ram.New(p, x)
	if m == nil || errno != api.OK {
		t.Fatalf("ram.New is %v, %d", m, errno)
	}
	return &guest{memory: m, table: x, bytes: make([]byte, pages*size)}
}

// set writes a word into the memory and its model; behind it no page is turned.
func (g *guest) set(t *testing.T, at, v uint32) {
	t.Helper()
	if !g.memory.PutWord(at, v) {
		t.Fatalf("PutWord(%#x, %08x) is refused", at, v)
	}
	g.keep(at, v)
	g.memory.Calm()
}

// keep is set in the model alone.
func (g *guest) keep(at, v uint32) {
	for i := range uint32(4) {
		g.bytes[at+i] = byte(v >> (8 * i))
	}
}

// check: the memory's bytes are the model's, and these pages alone are turned; behind it none is.
func (g *guest) check(t *testing.T, what string, turned ...int) {
	t.Helper()
	if got := g.memory.All(); !slices.Equal(got, g.bytes) {
		t.Fatalf("%s: the memory is %v, not %v", what, got, g.bytes)
	}
	if got := g.memory.Turned(); !slices.Equal(got, turned) {
		t.Fatalf("%s: the pages %v are turned, not %v", what, got, turned)
	}
	g.memory.Calm()
}

// word is the word at an address in the model, computed with numbers of 64 bits; false if a byte of it is behind the end.
func (g *guest) word(at uint64) (uint32, bool) {
	if at+4 > uint64(len(g.bytes)) {
		return 0, false
	}
	b := g.bytes[at : at+4]
	return uint32(b[0]) + uint32(b[1])*0x100 + uint32(b[2])*0x10000 + uint32(b[3])*0x1000000, true
}

// found is what Look answers.
type found struct {
	at, leaf uint32
	ok       bool
}

// look is what the document says that Look answers, word by word.
func (g *guest) look(root, va uint32) found {
	if va >= space {
		return found{}
	}
	first, ok := g.word(uint64(root-root%64) + 4*uint64(va/1024%16))
	if !ok || first%2 == 0 {
		return found{}
	}
	at := 64*uint64(first/256) + 4*uint64(va/64%16)
	leaf, ok := g.word(at)
	if !ok {
		return found{}
	}
	return found{at: uint32(at), leaf: leaf, ok: true}
}

// checkLook: Look answers want, and has neither written nor mapped a page.
func (g *guest) checkLook(t *testing.T, root, va uint32, want found) {
	t.Helper()
	mapped := g.table.Mapped()
	at, leaf, ok := walk.Look(g.memory, root, va)
	if got := (found{at, leaf, ok}); got != want {
		t.Errorf("Look(%#x, %#x) is %v, not %v", root, va, got, want)
	}
	g.check(t, "looked")
	if !slices.Equal(g.table.Mapped(), mapped) {
		t.Errorf("Look(%#x, %#x) mapped a page", root, va)
	}
}

// checkDo: Do answers the entry, and has written now at the address at if there is another word, which turned this page alone.
func (g *guest) checkDo(t *testing.T, root, va uint32, kind int, super bool, want api.Entry, at, now uint32) {
	t.Helper()
	var turned []int
	if was, _ := g.word(uint64(at)); was != now {
		turned = []int{int(at / size)}
	}
	g.keep(at, now)
	e, trap := walk.Do(g.memory, root, va, kind, super)
	if e != want || trap != (api.Trap{}) {
		t.Errorf("%s is %v %v, not %v", call(root, va, kind, super), e, trap, want)
	}
	g.check(t, call(root, va, kind, super), turned...)
}

// checkTrap: Do answers a trap with this cause at the access's address, and has written nothing.
func (g *guest) checkTrap(t *testing.T, root, va uint32, kind int, super bool, cause int) {
	t.Helper()
	e, trap := walk.Do(g.memory, root, va, kind, super)
	if e != (api.Entry{}) || trap != (api.Trap{Cause: cause, Addr: va}) {
		t.Errorf("%s is %v %v, not the trap %d", call(root, va, kind, super), e, trap, cause)
	}
	g.check(t, call(root, va, kind, super))
}

func call(root, va uint32, kind int, super bool) string {
	return fmt.Sprintf("Do(%#x, %#x, %d, %v)", root, va, kind, super)
}

// address is the virtual address of a byte by its two slots.
func address(first, second, low int) uint32 {
	return uint32(first*1024 + second*64 + low)
}

// faultOf is the cause for a kind that there is.
func faultOf(kind int) int {
	return []int{fetch: fetchFault, load: loadFault, store: storeFault}[kind]
}

// needs is the bits that an access needs.
func needs(kind int, super bool) uint32 {
	if super {
		return []uint32{fetch: 9, load: 3, store: 5}[kind]
	}
	return []uint32{fetch: 25, load: 19, store: 21}[kind]
}

// leaves is the entry behind an access that it does not refuse.
func leaves(leaf uint32, kind int) uint32 {
	if kind == store {
		return leaf | accessed | dirty
	}
	return leaf | accessed
}

// entryOf is what Do tells of a leaf entry.
func entryOf(va, leaf uint32) api.Entry {
	return api.Entry{Valid: true, VPN: va / 64, PFN: leaf / 256, Bits: leaf & (2 + 4 + 8 + 16 + 64)}
}

// The tests name the document's numbers by themselves, so that a wrong constant is seen.
func TestNumbers(t *testing.T) {
	check := func(got []int, want ...int) {
		t.Helper()
		if !slices.Equal(got, want) {
			t.Errorf("%v, not %v", got, want)
		}
	}
	check([]int{api.Valid, api.Read, api.Write, api.Exec, api.User, api.Accessed, api.Dirty}, valid, read, write, exec, user, accessed, dirty)
	check([]int{api.Fetch, api.Load, api.Store}, fetch, load, store)
	check([]int{api.FetchFault, api.LoadFault, api.StoreFault, api.Access}, fetchFault, loadFault, storeFault, access)
	check([]int{api.PageSize, api.Space, api.MaxPages}, size, space, most)
}
