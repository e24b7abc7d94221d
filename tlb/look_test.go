package tlb_test

import (
	"fmt"
	"math"
	"slices"
	"testing"

	"innkeeper/api"
	"innkeeper/tlb"
)

// The bits of an entry and the kinds, as the document and package api number them.
const (
	valid    = 1
	read     = 2
	write    = 4
	exec     = 8
	user     = 16
	accessed = 32
	dirty    = 64

	fetch = 1
	load  = 2
	store = 3

	size  = 64      // bytes of a page
	space = 1 << 14 // virtual addresses
	slots = 16

	every    = read | write | exec | user | dirty
	lastPage = math.MaxUint32 / size
)

// kinds is the kinds that there are.
var kinds = []int{fetch, load, store}

// supers is whether an access is a supervisor's, both ways.
var supers = []bool{false, true}

// noKinds is numbers that no kind has.
func noKinds() []int {
	return []int{math.MinInt, math.MinInt32, -3, -2, -1, 0, 4, 5, 6, 7, 8, 9, 16, 255, 256 + load, 1<<32 + store, math.MaxInt32, math.MaxInt}
}

// noSlots is numbers that no slot has.
func noSlots() []int {
	return []int{math.MinInt, math.MinInt32, -17, -16, -15, -2, -1, 16, 17, 31, 32, 255, 256, 1 << 16, 1<<32 + 3, math.MaxInt32, math.MaxInt}
}

// someAddresses is addresses at the edges of pages, of the guest's space, and of all words.
func someAddresses() []uint32 {
	return []uint32{0, 1, 63, 64, 127, 128, 15*size + 9, 16 * size, 16*size + 63, 17 * size, space - 1, space, space + 63, space + 64, 1 << 16, 0x7fffffff, 0x80000000, 0xffffffbf, 0xffffffc0, math.MaxUint32}
}

// needs is the bits that an access needs.
func needs(kind int, super bool) uint32 {
	if super {
		return []uint32{fetch: 8, load: 2, store: 68}[kind]
	}
	return []uint32{fetch: 24, load: 18, store: 84}[kind]
}

// model is the entries that the slots must have.
type model [slots]api.Entry

// put is the model with an entry in its slot.
func (m model) put(e api.Entry) model {
	m[e.VPN&15] = e
	return m
}

// without is the model with a slot empty.
func (m model) without(slot int) model {
	m[slot] = api.Entry{}
	return m
}

// len is how many slots are not empty.
func (m model) len() int {
	n := 0
	for _, e := range m {
		if e.Valid {
			n++
		}
	}
	return n
}

// found is what Find answers.
type found struct {
	at uint32
	ok bool
}

// find is what the document says that Find answers, computed with numbers of 64 bits.
func (m model) find(va uint32, kind int, super bool) found {
	e := m[va>>6&15]
	if !slices.Contains(kinds, kind) || !e.Valid || e.VPN != va>>6 {
		return found{}
	}
	for bit := uint32(1); bit != 0; bit <<= 1 {
		if needs(kind, super)&bit != 0 && e.Bits&bit == 0 {
			return found{}
		}
	}
	return found{at: uint32((uint64(e.PFN)*size + uint64(va&63)) % (1 << 32)), ok: true}
}

// entry is a Valid entry.
func entry(vpn, pfn, bits uint32) api.Entry {
	return api.Entry{Valid: true, VPN: vpn, PFN: pfn, Bits: bits}
}

// filled is a buffer with these entries, and its model.
func filled(t *testing.T, entries ...api.Entry) (*tlb.Buffer, model) {
	t.Helper()
	b, m := tlb.New(), model{}
	for _, e := range entries {
		m = checkFill(t, b, m, e)
	}
	return b, m
}

// full is a buffer all of whose slots have an entry, no two of them alike, and its model.
func full(t *testing.T) (*tlb.Buffer, model) {
	t.Helper()
	var entries []api.Entry
	for i := range uint32(slots) {
		entries = append(entries, entry(i+i%3*slots, 100+i, every))
	}
	return filled(t, entries...)
}

// check: the buffer has the model's entries, and as many of them.
func check(t *testing.T, what string, b *tlb.Buffer, m model) {
	t.Helper()
	for i, want := range m {
		if got := b.At(i); got != want {
			t.Errorf("%s: At(%d) is %v, not %v", what, i, got, want)
		}
	}
	if got := b.Len(); got != m.len() || got > slots {
		t.Errorf("%s: Len is %d, not %d", what, got, m.len())
	}
}

// checkFill: a Valid entry is taken into its slot; the model behind it is answered.
func checkFill(t *testing.T, b *tlb.Buffer, m model, e api.Entry) model {
	t.Helper()
	if !b.Fill(e) {
		t.Errorf("Fill(%v) is false", e)
	}
	m = m.put(e)
	check(t, fmt.Sprintf("Fill(%v)", e), b, m)
	return m
}

// checkNoFill: the entry is refused, and nothing is changed.
func checkNoFill(t *testing.T, b *tlb.Buffer, m model, e api.Entry) {
	t.Helper()
	if b.Fill(e) {
		t.Errorf("Fill(%v) is true", e)
	}
	check(t, fmt.Sprintf("Fill(%v)", e), b, m)
}

// checkFind: Find answers want, and has changed nothing.
func checkFind(t *testing.T, b *tlb.Buffer, m model, va uint32, kind int, super bool, want found) {
	t.Helper()
	at, ok := b.Find(va, kind, super)
	what := fmt.Sprintf("Find(%#x, %d, %v)", va, kind, super)
	if got := (found{at, ok}); got != want {
		t.Errorf("%s is %v, not %v", what, got, want)
	}
	check(t, what, b, m)
}

// checkFinds: every access to the address is answered as the model says.
func checkFinds(t *testing.T, b *tlb.Buffer, m model, va uint32) {
	t.Helper()
	for _, kind := range append(noKinds(), kinds...) {
		for _, super := range supers {
			checkFind(t, b, m, va, kind, super, m.find(va, kind, super))
		}
	}
}

// checkDrop: behind Drop the buffer has want.
func checkDrop(t *testing.T, b *tlb.Buffer, va uint32, want model) {
	t.Helper()
	b.Drop(va)
	check(t, fmt.Sprintf("Drop(%#x)", va), b, want)
}

// The tests name the document's numbers by themselves, so that a wrong constant is seen.
func TestNumbers(t *testing.T) {
	equal := func(got []int, want ...int) {
		t.Helper()
		if !slices.Equal(got, want) {
			t.Errorf("%v, not %v", got, want)
		}
	}
	equal([]int{api.Valid, api.Read, api.Write, api.Exec, api.User, api.Accessed, api.Dirty}, valid, read, write, exec, user, accessed, dirty)
	equal([]int{api.Fetch, api.Load, api.Store}, fetch, load, store)
	equal([]int{api.PageSize, api.Space, api.Entries}, size, space, slots)
}
