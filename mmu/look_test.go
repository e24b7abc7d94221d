package mmu_test

import (
	"fmt"
	"math"
	"slices"
	"testing"

	"innkeeper/api"
	"innkeeper/frames"
	"innkeeper/mmu"
	"innkeeper/nested"
	"innkeeper/ram"
)

// The bits of an entry, the kinds, and the causes, as the document and package api number them.
const (
	valid    = 1
	read     = 2
	write    = 4
	exec     = 8
	user     = 16
	accessed = 32
	dirty    = 64

	fetch = 1
	load  = 2
	store = 3

	fetchFault = 7
	loadFault  = 8
	storeFault = 9
	access     = 10

	size   = 64      // bytes of a page
	space  = 1 << 14 // virtual addresses
	slots  = 16      // of the buffer, and of a table
	most   = 64      // pages of a guest
	device = 0x8000

	every      = read | write | exec | user
	lastPage   = math.MaxUint32 / size
	devicePage = device / size // the first one of four
	root       = 64            // of the tables that the tests make
)

// kinds is the kinds that there are.
var kinds = []int{fetch, load, store}

// bools is both of them.
var bools = []bool{false, true}

// noKinds is numbers that no kind has.
func noKinds() []int {
	return []int{math.MinInt, math.MinInt32, -3, -2, -1, 0, 4, 5, 6, 7, 8, 9, 16, 255, 256 + load, 1<<32 + store, math.MaxInt32, math.MaxInt}
}

// noLengths is numbers of bytes that no access has.
func noLengths() []int {
	return []int{math.MinInt, math.MinInt32, -4, -2, -1, 0, 5, 6, 8, 64, 255, 256 + 1, 1<<32 + 1, 1<<32 + 4, math.MaxInt32, math.MaxInt}
}

// plain is an access without paging.
func plain() mmu.Space { return mmu.Space{Root: root} }

// paged is an access through the tables that the tests make.
func paged(super bool) mmu.Space { return mmu.Space{Paging: true, Super: super, Root: root} }

// none is no trap.
func none() api.Trap { return api.Trap{} }

// trapped is a trap with a cause.
func trapped(cause int, va uint32) api.Trap { return api.Trap{Cause: cause, Addr: va} }

// faultOf is the cause for a kind that there is.
func faultOf(kind int) int {
	return []int{fetch: fetchFault, load: loadFault, store: storeFault}[kind]
}

// needs is the bits that a leaf entry needs for an access.
func needs(kind int, super bool) uint32 {
	if super {
		return []uint32{fetch: 9, load: 3, store: 5}[kind]
	}
	return []uint32{fetch: 25, load: 19, store: 21}[kind]
}

// marks is the bits that an access sets in a leaf entry.
func marks(kind int) uint32 {
	if kind == store {
		return accessed | dirty
	}
	return accessed
}

// entry is a Valid entry of the buffer.
func entry(vpn, pfn, bits uint32) api.Entry {
	return api.Entry{Valid: true, VPN: vpn, PFN: pfn, Bits: bits}
}

// model is what a unit and its memory must have, and what the pages turned since the last look.
type model struct {
	bytes  []byte
	mapped []bool
	turned []bool
	slots  [slots]api.Entry
}

// guest is a unit with what it stands on, and its model.
type guest struct {
	model
	memory *ram.Memory
	table  *nested.Table
	unit   *mmu.Unit
}

// bare is a unit on a new memory of so many pages.
func bare(t *testing.T, pages int) *guest {
	t.Helper()
	p := frames.New()
	x, _ := nested.New(p, 0, pages)
	m, errno := ram.New(p, x)
	if m == nil || errno != api.OK {
		t.Fatalf("ram.New is %v, %d", m, errno)
	}
	u, errno := mmu.New(m)
	if u == nil || errno != api.OK {
		t.Fatalf("New is %v, %d", u, errno)
	}
	return &guest{memory: m, table: x, unit: u, model: model{bytes: make([]byte, pages*size), mapped: make([]bool, pages), turned: make([]bool, pages)}}
}

// tabled is a bare guest of 16 pages with tables: that of the root in page 1, the leaf entries of the pages 0 to 15 in page 2, of 16 to 31 in page 3, and of 240 to 255 in page 4; behind these each byte of the memory is another than its neighbours.
func tabled(t *testing.T) *guest {
	t.Helper()
	g := bare(t, 16)
	g.set(t, root, 2<<8|valid)
	g.set(t, root+4, 3<<8|valid)
	g.set(t, root+60, 4<<8|valid)
	for a := uint32(5 * size); a < 16*size; a += 4 {
		g.set(t, a, a*0x01010101+0x9e3779b9*(a/size)|0x01010101)
	}
	return g
}

// set writes a word into the memory and its model; behind it no page is turned.
func (g *guest) set(t *testing.T, a, v uint32) {
	t.Helper()
	if !g.memory.PutWord(a, v) {
		t.Fatalf("PutWord(%#x, %08x) is refused", a, v)
	}
	g.keep(a, v)
	g.settle()
}

// settle forgets which pages turned.
func (g *guest) settle() {
	g.memory.Calm()
	clear(g.turned)
}

// leaf is the address of the leaf entry of a page in the tables that the tests make.
func leaf(vpn uint32) uint32 {
	switch vpn / slots {
	case 0:
		return 2*size + vpn%slots*4
	case 1:
		return 3*size + vpn%slots*4
	}
	return 4*size + vpn%slots*4
}

// lead sets the leaf entry of a page.
func (g *guest) lead(t *testing.T, vpn, pfn, bits uint32) {
	t.Helper()
	g.set(t, leaf(vpn), pfn<<8|bits)
}

// fill puts an entry into the unit's buffer by hand.
func (g *guest) fill(t *testing.T, e api.Entry) {
	t.Helper()
	if !g.unit.Buffer().Fill(e) {
		t.Fatalf("Fill(%v) is false", e)
	}
	g.slots[e.VPN%slots] = e
}

// fresh puts the unit's buffer back to empty.
func (g *guest) fresh() {
	g.unit.Buffer().Flush()
	g.slots = [slots]api.Entry{}
}

// put is Put of the memory, in the model.
func (m *model) put(a uint32, b byte) {
	m.bytes[a] = b
	m.mapped[a/size] = m.mapped[a/size] || b != 0
	m.turned[a/size] = true
}

// keep is PutWord of the memory, in the model.
func (m *model) keep(a, v uint32) {
	for i := range uint32(4) {
		m.put(a+i, byte(v>>(8*i)))
	}
}

// word is the word at an address in the model, which is a number of 64 bits; false if a byte of it is behind the end.
func (m *model) word(a uint64) (uint32, bool) {
	if a+4 > uint64(len(m.bytes)) {
		return 0, false
	}
	b := m.bytes[a : a+4]
	return uint32(b[0]) + uint32(b[1])*0x100 + uint32(b[2])*0x10000 + uint32(b[3])*0x1000000, true
}

// answer is what a call answers: an address or a value, and a trap.
type answer struct {
	v    uint32
	trap api.Trap
}

// walk is what the document says of walk.Do for a kind that there is, word by word.
func (m *model) walk(s mmu.Space, va uint32, kind int) (api.Entry, api.Trap) {
	fault := trapped(faultOf(kind), va)
	first, ok := m.word(uint64(s.Root-s.Root%64) + 4*uint64(va/1024%16))
	if va >= space || !ok || first%2 == 0 {
		return api.Entry{}, fault
	}
	where := 64*uint64(first/256) + 4*uint64(va/64%16)
	e, ok := m.word(where)
	if need := needs(kind, s.Super); !ok || e&need != need {
		return api.Entry{}, fault
	}
	if now := e | marks(kind); now != e {
		m.keep(uint32(where), now)
		e = now
	}
	return entry(va/64, e/256, e&(every|dirty)), none()
}

// held tells whether the buffer's entry lets an access to va through.
func (m *model) held(s mmu.Space, va uint32, kind int) bool {
	e := m.slots[va/64%16]
	need := needs(kind, s.Super) - valid
	if kind == store {
		need += dirty
	}
	return e.Valid && e.VPN == va/64 && e.Bits&need == need
}

// place is what the document says that Place answers, and does.
func (m *model) place(s mmu.Space, va uint32, kind int) answer {
	if !slices.Contains(kinds, kind) {
		return answer{trap: trapped(access, va)}
	}
	a := uint64(va)
	if s.Paging {
		if !m.held(s, va, kind) {
			e, trap := m.walk(s, va, kind)
			if trap != none() {
				return answer{trap: trap}
			}
			m.slots[e.VPN%16] = e
		}
		a = (64*uint64(m.slots[va/64%16].PFN) + uint64(va%64)) % (1 << 32)
	}
	if a < uint64(len(m.bytes)) || kind != fetch && a/256 == device/256 {
		return answer{v: uint32(a)}
	}
	return answer{trap: trapped(access, va)}
}

// reach is the places of the bytes of an access, each looked up by the page that it is in, or its trap.
func (m *model) reach(s mmu.Space, va uint32, n, kind int) ([]uint32, api.Trap) {
	if n < 1 || n > 4 {
		return nil, trapped(access, va)
	}
	var pages, places, list []uint32
	for i := range uint32(n) {
		if a := va + i; i == 0 || a%64 == 0 {
			got := m.place(s, a, kind)
			if got.trap != none() {
				return nil, got.trap
			}
			pages, places = append(pages, a), append(places, got.v)
		}
		last := len(pages) - 1
		list = append(list, places[last]+(va+i-pages[last]))
	}
	for i, place := range places {
		if place >= device {
			return nil, trapped(access, pages[i])
		}
	}
	return list, none()
}

// load is what the document says that Load answers, and does.
func (m *model) load(s mmu.Space, va uint32, n int) answer {
	list, trap := m.reach(s, va, n, load)
	v := uint32(0)
	for i, a := range list {
		v += uint32(m.bytes[a]) << (8 * i)
	}
	return answer{v, trap}
}

// store is what the document says that Store answers, and does.
func (m *model) store(s mmu.Space, va, v uint32, n int) api.Trap {
	list, trap := m.reach(s, va, n, store)
	for i, a := range list {
		m.put(a, byte(v>>(8*i)))
	}
	return trap
}

func numbers(marks []bool) []int {
	var list []int
	for n, marked := range marks {
		if marked {
			list = append(list, n)
		}
	}
	return list
}

// check: the memory, its mapped and its turned pages, and the buffer are as the model has them; behind it no page is turned.
func (g *guest) check(t *testing.T, what string) {
	t.Helper()
	if got := g.memory.All(); !slices.Equal(got, g.bytes) {
		t.Fatalf("%s: the memory is %v, not %v", what, got, g.bytes)
	}
	if got := g.memory.Turned(); !slices.Equal(got, numbers(g.turned)) {
		t.Fatalf("%s: the pages %v are turned, not %v", what, got, numbers(g.turned))
	}
	if got := g.table.Mapped(); !slices.Equal(got, numbers(g.mapped)) {
		t.Fatalf("%s: the pages %v are mapped, not %v", what, got, numbers(g.mapped))
	}
	for i, want := range g.slots {
		if got := g.unit.Buffer().At(i); got != want {
			t.Fatalf("%s: slot %d of the buffer is %v, not %v", what, i, got, want)
		}
	}
	g.settle()
}

// checkPlace: Place answers want, as the model does, and has done what the model does.
func (g *guest) checkPlace(t *testing.T, s mmu.Space, va uint32, kind int, want answer) {
	t.Helper()
	what := fmt.Sprintf("Place(%v, %#x, %d)", s, va, kind)
	if m := g.model.place(s, va, kind); m != want {
		t.Fatalf("%s is %v in the model, not %v", what, m, want)
	}
	v, trap := g.unit.Place(s, va, kind)
	if got := (answer{v, trap}); got != want {
		t.Errorf("%s is %v, not %v", what, got, want)
	}
	g.check(t, what)
}

// checkLoad: Load answers want, as the model does, and has done what the model does.
func (g *guest) checkLoad(t *testing.T, s mmu.Space, va uint32, n int, want answer) {
	t.Helper()
	what := fmt.Sprintf("Load(%v, %#x, %d)", s, va, n)
	if m := g.model.load(s, va, n); m != want {
		t.Fatalf("%s is %v in the model, not %v", what, m, want)
	}
	v, trap := g.unit.Load(s, va, n)
	if got := (answer{v, trap}); got != want {
		t.Errorf("%s is %v, not %v", what, got, want)
	}
	g.check(t, what)
}

// checkStore: Store answers want, as the model does, and has done what the model does.
func (g *guest) checkStore(t *testing.T, s mmu.Space, va, v uint32, n int, want api.Trap) {
	t.Helper()
	what := fmt.Sprintf("Store(%v, %#x, %#x, %d)", s, va, v, n)
	if m := g.model.store(s, va, v, n); m != want {
		t.Fatalf("%s is %v in the model, not %v", what, m, want)
	}
	if got := g.unit.Store(s, va, v, n); got != want {
		t.Errorf("%s is %v, not %v", what, got, want)
	}
	g.check(t, what)
}

// checkTrap: an access of a kind is kept from being, with this trap.
func (g *guest) checkTrap(t *testing.T, s mmu.Space, va uint32, n, kind int, want api.Trap) {
	t.Helper()
	if kind == store {
		g.checkStore(t, s, va, 0xfefdfcfb, n, want)
		return
	}
	g.checkLoad(t, s, va, n, answer{trap: want})
}

// checkLeaf: the leaf entry of a page is so now.
func (g *guest) checkLeaf(t *testing.T, vpn, want uint32) {
	t.Helper()
	if got, ok := g.memory.Word(leaf(vpn)); got != want || !ok {
		t.Errorf("the leaf entry of page %d is %#x %v, not %#x", vpn, got, ok, want)
	}
}

// checkSlot: the slot of a page has this entry.
func (g *guest) checkSlot(t *testing.T, vpn uint32, want api.Entry) {
	t.Helper()
	if got := g.unit.Buffer().At(int(vpn % slots)); got != want {
		t.Errorf("the slot of page %d has %v, not %v", vpn, got, want)
	}
}

// The tests name the document's numbers by themselves, so that a wrong constant is seen.
func TestNumbers(t *testing.T) {
	equal := func(got []int, want ...int) {
		t.Helper()
		if !slices.Equal(got, want) {
			t.Errorf("%v, not %v", got, want)
		}
	}
	equal([]int{api.Valid, api.Read, api.Write, api.Exec, api.User, api.Accessed, api.Dirty}, valid, read, write, exec, user, accessed, dirty)
	equal([]int{api.Fetch, api.Load, api.Store}, fetch, load, store)
	equal([]int{api.FetchFault, api.LoadFault, api.StoreFault, api.Access}, fetchFault, loadFault, storeFault, access)
	equal([]int{api.PageSize, api.Space, api.Entries, api.MaxPages, api.Device}, size, space, slots, most, device)
}
