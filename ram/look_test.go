package ram_test

import (
	"fmt"
	"math"
	"slices"
	"testing"

	"innkeeper/api"
	"innkeeper/frames"
	"innkeeper/nested"
	"innkeeper/ram"
)

const (
	size   = 64  // bytes of a page
	first  = 16  // the first frame that is not the monitor's
	owners = 4   // guests
	most   = 64  // pages of one guest
	all    = 240 // frames that are not the monitor's
)

// host is a memory with what it stands on.
type host struct {
	pool   *frames.Pool
	table  *nested.Table
	owner  int
	memory *ram.Memory
}

// look is what the document says that a memory tells: a model, and what a memory is held against.
type look struct {
	bytes  []byte
	mapped []bool
	turned []bool
}

// empty is the look of a new memory.
func empty(pages int) *look {
	return &look{bytes: make([]byte, pages*size), mapped: make([]bool, pages), turned: make([]bool, pages)}
}

// put is l with bytes at the addresses from at on; l is turned.
func (l *look) put(at int, list ...byte) *look {
	for i, b := range list {
		page := (at + i) / size
		l.bytes[at+i] = b
		l.mapped[page] = l.mapped[page] || b != 0
		l.turned[page] = true
	}
	return l
}

// calm is l with no page turned; l is turned.
func (l *look) calm() *look {
	clear(l.turned)
	return l
}

// copied is a look like l that shares nothing with it.
func (l *look) copied() *look {
	return &look{bytes: slices.Clone(l.bytes), mapped: slices.Clone(l.mapped), turned: slices.Clone(l.turned)}
}

func (l *look) pages() int {
	return len(l.mapped)
}

func numbers(marks []bool) []int {
	var list []int
	for n, marked := range marks {
		if marked {
			list = append(list, n)
		}
	}
	return list
}

// wordOf is the bytes of a word, the least significant first.
func wordOf(v uint32) []byte {
	return []byte{byte(v), byte(v >> 8), byte(v >> 16), byte(v >> 24)}
}

// noPlaces is numbers that no address of a memory of so many bytes has.
func noPlaces(size int) []uint32 {
	n := uint32(size)
	return []uint32{n, n + 1, n + 3, n + 63, n + 64, 2 * n, 4096, 4097, 0x8000, 0x7fffffff, 0x80000000, 0xfffff000, 0xffffffc0, math.MaxUint32 - 3, math.MaxUint32 - 2, math.MaxUint32 - 1, math.MaxUint32}
}

// noWords is addresses, or none, from which on there are no four addresses.
func noWords(size int) []uint32 {
	n := uint32(size)
	return append(noPlaces(size), n-3, n-2, n-1)
}

// noPages is numbers that no page of a memory of so many has.
func noPages(pages int) []int {
	return []int{math.MinInt, math.MinInt32, -1 << 26, -pages, -2, -1, pages, pages + 1, 2 * pages, most, 1 << 26, math.MaxInt32, math.MaxInt}
}

// wrongLists is lists that are not as long as a page.
func wrongLists() [][]byte {
	lists := [][]byte{nil, {}}
	for _, n := range []int{1, 2, size - 2, size - 1, size + 1, size + 2, 2 * size, 4096} {
		lists = append(lists, filled(n, 7))
	}
	return append(lists, make([]byte, size-1), make([]byte, size+1), filled(2*size, 7)[:size-1])
}

// filled is n bytes, each another than the one ahead, none of them 0.
func filled(n int, from byte) []byte {
	list := make([]byte, n)
	for i := range list {
		list[i] = byte(i*7)%251 + 1 + from%4
	}
	return list
}

// onPool is a memory for an owner on a pool.
func onPool(t *testing.T, p *frames.Pool, owner, pages int) host {
	t.Helper()
	x, errno := nested.New(p, owner, pages)
	if errno != api.OK {
		t.Fatalf("nested.New(%d, %d) is %d", owner, pages, errno)
	}
	m, errno := ram.New(p, x)
	if m == nil || errno != api.OK {
		t.Fatalf("New is %v, %d", m, errno)
	}
	return host{pool: p, table: x, owner: owner, memory: m}
}

// fresh is a new memory on a new pool.
func fresh(t *testing.T, pages int) host {
	t.Helper()
	return onPool(t, frames.New(), 0, pages)
}

// some is a memory of five pages of owner 2, of which 1 and 3 are mapped, calm, on a pool in which owner 1 holds the frames 16 and 18.
func some(t *testing.T) (host, *look) {
	t.Helper()
	p := frames.New()
	p.Promise(1, 2)
	h := onPool(t, p, 2, 5)
	want := empty(5)
	for i, page := range []int{3, 1} {
		if f, errno := p.Take(1); f != first+2*i || errno != api.OK {
			t.Fatalf("Take is %d, %d", f, errno)
		}
		list := filled(size, byte(page))
		checkPutPage(t, h, page, list, true)
		want.put(page*size, list...)
	}
	h.memory.Calm()
	h.check(t, "some", want.calm())
	return h, want
}

// check asks the memory all that it can be asked without a change, and the pool for the frames.
func (h host) check(t *testing.T, what string, want *look) {
	t.Helper()
	if got := h.memory.Size(); int(got) != len(want.bytes) {
		t.Errorf("%s: Size is %d, not %d", what, got, len(want.bytes))
	}
	checkBytes(t, what, h.memory, want)
	checkWords(t, what, h.memory, want)
	checkPages(t, what, h.memory, want)
	checkTurned(t, what, h.memory, numbers(want.turned)...)
	h.checkFrames(t, what, want)
}

func checkBytes(t *testing.T, what string, m *ram.Memory, want *look) {
	t.Helper()
	for at, b := range want.bytes {
		if got, ok := m.Byte(uint32(at)); got != b || !ok {
			t.Fatalf("%s: Byte(%d) is %d %v, not %d", what, at, got, ok, b)
		}
	}
	for _, at := range noPlaces(len(want.bytes)) {
		if got, ok := m.Byte(at); got != 0 || ok {
			t.Fatalf("%s: Byte(%#x) is %d %v", what, at, got, ok)
		}
	}
	if got := m.All(); !slices.Equal(got, want.bytes) {
		t.Errorf("%s: All is %v, not %v", what, got, want.bytes)
	}
}

func checkWords(t *testing.T, what string, m *ram.Memory, want *look) {
	t.Helper()
	for at := range len(want.bytes) - 3 {
		b := want.bytes[at : at+4]
		v := uint32(b[0]) + uint32(b[1])*0x100 + uint32(b[2])*0x10000 + uint32(b[3])*0x1000000
		if got, ok := m.Word(uint32(at)); got != v || !ok {
			t.Fatalf("%s: Word(%d) is %08x %v, not %08x", what, at, got, ok, v)
		}
	}
	for _, at := range noWords(len(want.bytes)) {
		if got, ok := m.Word(at); got != 0 || ok {
			t.Fatalf("%s: Word(%#x) is %08x %v", what, at, got, ok)
		}
	}
}

func checkPages(t *testing.T, what string, m *ram.Memory, want *look) {
	t.Helper()
	for n := range want.pages() {
		if got, ok := m.Page(n); !slices.Equal(got, want.bytes[n*size:(n+1)*size]) || !ok {
			t.Errorf("%s: Page(%d) is %v %v, not %v", what, n, got, ok, want.bytes[n*size:(n+1)*size])
		}
	}
	for _, n := range noPages(want.pages()) {
		if got, ok := m.Page(n); len(got) != 0 || ok {
			t.Errorf("%s: Page(%d) is %v %v", what, n, got, ok)
		}
	}
}

// checkFrames: the pages that are mapped, and no others, have a frame of the owner each, in which their bytes are.
func (h host) checkFrames(t *testing.T, what string, want *look) {
	t.Helper()
	if got := h.table.Mapped(); !slices.Equal(got, numbers(want.mapped)) {
		t.Errorf("%s: the mapped pages are %v, not %v", what, got, numbers(want.mapped))
	}
	var held []int
	for _, n := range h.table.Mapped() {
		f, _ := h.table.Frame(n)
		held = append(held, f)
		for at := range size {
			if b, ok := h.pool.Byte(f, at); b != want.bytes[n*size+at] || !ok {
				t.Fatalf("%s: byte %d of page %d is %d %v in its frame", what, at, n, b, ok)
			}
		}
		if h.table.Guarded(n) {
			t.Errorf("%s: page %d is guarded", what, n)
		}
	}
	slices.Sort(held)
	if got := h.pool.Held(h.owner); !slices.Equal(got, held) {
		t.Errorf("%s: the owner holds %v, not %v", what, got, held)
	}
}

func checkTurned(t *testing.T, what string, m *ram.Memory, want ...int) {
	t.Helper()
	if got := m.Turned(); !slices.Equal(got, want) {
		t.Errorf("%s: Turned is %v, not %v", what, got, want)
	}
}

func checkPut(t *testing.T, h host, at uint32, b byte, want bool) {
	t.Helper()
	if got := h.memory.Put(at, b); got != want {
		t.Errorf("Put(%#x, %d) is %v", at, b, got)
	}
}

func checkPutWord(t *testing.T, h host, at, v uint32, want bool) {
	t.Helper()
	if got := h.memory.PutWord(at, v); got != want {
		t.Errorf("PutWord(%#x, %08x) is %v", at, v, got)
	}
}

// checkPutPage looks also whether the list and what is behind its end are left alone.
func checkPutPage(t *testing.T, h host, n int, list []byte, want bool) {
	t.Helper()
	whole := slices.Clone(list[:cap(list)])
	if got := h.memory.PutPage(n, list); got != want {
		t.Errorf("PutPage(%d, %d bytes) is %v", n, len(list), got)
	}
	if !slices.Equal(whole, list[:cap(list)]) {
		t.Errorf("PutPage(%d) turned its list", n)
	}
}

func checkLoad(t *testing.T, h host, list []byte, want api.Errno) {
	t.Helper()
	whole := slices.Clone(list[:cap(list)])
	if got := h.memory.Load(list); got != want {
		t.Errorf("Load of %d bytes is %d, not %d", len(list), got, want)
	}
	if !slices.Equal(whole, list[:cap(list)]) {
		t.Errorf("Load of %d bytes turned its list", len(list))
	}
}

// checkFree: so many frames of the pool are held by nobody.
func checkFree(t *testing.T, what string, p *frames.Pool, want int) {
	t.Helper()
	if got := p.Free(); got != want {
		t.Errorf("%s: Free is %d, not %d", what, got, want)
	}
}

// The tests name the document's numbers by themselves, so that a wrong constant is seen.
func TestNumbers(t *testing.T) {
	got := fmt.Sprint(api.PageSize, api.Kept, api.Frames, api.MaxGuests, api.MaxPages)
	if got != "64 16 256 4 64" {
		t.Error(got)
	}
}
