package ram_test

import (
	"math/rand"
	"slices"
	"testing"

	"innkeeper/api"
)

// P7.2: each kind of write turns the pages that it writes into, those behind it, and no others.
func TestTurned(t *testing.T) {
	check := func(what string, write func(h host), want ...int) {
		t.Helper()
		h := fresh(t, 5)
		checkTurned(t, "new", h.memory)
		write(h)
		checkTurned(t, what, h.memory, want...)
		h.memory.Calm()
		checkTurned(t, "calm", h.memory)
		write(h)
		checkTurned(t, what+" again", h.memory, want...)
	}
	for n := range 5 {
		low, high := uint32(n*size), uint32(n*size+63)
		check("the first byte", func(h host) { checkPut(t, h, low, 1, true) }, n)
		check("the last byte", func(h host) { checkPut(t, h, high, 1, true) }, n)
		check("a byte of 0", func(h host) { checkPut(t, h, high, 0, true) }, n)
		check("the first word", func(h host) { checkPutWord(t, h, low, 1, true) }, n)
		check("the last word", func(h host) { checkPutWord(t, h, high-3, 1<<24, true) }, n)
		check("a word of 0", func(h host) { checkPutWord(t, h, high-3, 0, true) }, n)
		check("a page", func(h host) { checkPutPage(t, h, n, filled(size, 1), true) }, n)
		check("a page of 0", func(h host) { checkPutPage(t, h, n, make([]byte, size), true) }, n)
	}
	for n := range 4 {
		for back := range uint32(3) {
			at := uint32(n*size) + 63 - back
			check("a word over the end", func(h host) { checkPutWord(t, h, at, 0x01010101, true) }, n, n+1)
			check("a word of 0 over the end", func(h host) { checkPutWord(t, h, at, 0, true) }, n, n+1)
			check("a word of one low byte", func(h host) { checkPutWord(t, h, at, 1, true) }, n, n+1)
		}
	}
	check("nothing loaded", func(h host) { checkLoad(t, h, nil, api.OK) })
	check("a byte loaded", func(h host) { checkLoad(t, h, []byte{0}, api.OK) }, 0)
	check("a page loaded", func(h host) { checkLoad(t, h, filled(size, 1), api.OK) }, 0)
	check("a page and a byte loaded", func(h host) { checkLoad(t, h, make([]byte, size+1), api.OK) }, 0, 1)
	check("all loaded", func(h host) { checkLoad(t, h, make([]byte, 5*size), api.OK) }, 0, 1, 2, 3, 4)
}

// P7.2: the pages are told in ascending order, each once, in whatever order and however often they were written.
func TestTurnedOrder(t *testing.T) {
	h := fresh(t, most)
	turned := make([]bool, most)
	for i, n := range rand.New(rand.NewSource(1)).Perm(most) {
		for range 3 {
			checkPut(t, h, uint32(n*size+i), byte(i%2), true)
		}
		turned[n] = true
		checkTurned(t, "one more", h.memory, numbers(turned)...)
	}
}

// P7.2: a write that changes no byte turns its page too, mapped or not.
func TestTurnedWithoutChange(t *testing.T) {
	h, want := some(t)
	b, _ := h.memory.Byte(3*size + 8)
	checkPut(t, h, 3*size+8, b, true)
	checkTurned(t, "the same byte", h.memory, 3)
	v, _ := h.memory.Word(size + 8)
	checkPutWord(t, h, size+8, v, true)
	checkTurned(t, "the same word", h.memory, 1, 3)
	v, _ = h.memory.Word(4*size - 2)
	checkPutWord(t, h, 4*size-2, v, true)
	checkTurned(t, "the same word over the end", h.memory, 1, 3, 4)
	h.memory.Calm()
	page, _ := h.memory.Page(2)
	checkPutPage(t, h, 2, page, true)
	checkTurned(t, "the same page", h.memory, 2)
	checkLoad(t, h, h.memory.All(), api.OK)
	checkTurned(t, "the same bytes", h.memory, 0, 1, 2, 3, 4)
	h.memory.Calm()
	h.check(t, "no byte changed", want)
}

// P7.2: calls that fail turn nothing.
func TestTurnedByFailing(t *testing.T) {
	h, want := some(t)
	checkPut(t, h, 2*size, 0, true)
	want.put(2*size, 0)
	for _, at := range noPlaces(5 * size) {
		checkPut(t, h, at, 1, false)
	}
	for _, at := range noWords(5 * size) {
		checkPutWord(t, h, at, 1, false)
	}
	for _, n := range noPages(5) {
		checkPutPage(t, h, n, filled(size, 1), false)
	}
	for n := range 5 {
		for _, list := range wrongLists() {
			checkPutPage(t, h, n, list, false)
		}
	}
	checkLoad(t, h, filled(5*size+1, 1), api.ErrLong)
	h.check(t, "failed", want)
	h.memory.Calm()
	h.check(t, "failed, and calm", want.calm())
}

// P7.2: calls that only read turn nothing, and a page that is mapped or unmapped beside the memory is not turned.
func TestTurnedByReading(t *testing.T) {
	h, want := some(t)
	h.check(t, "read", want)
	h.check(t, "read twice", want)
	h.table.Map(2)
	h.table.Unmap(1)
	checkTurned(t, "mapped beside", h.memory)
	checkPut(t, h, 3*size, 1, true)
	h.table.Unmap(3)
	checkTurned(t, "unmapped beside", h.memory, 3)
}

// P7.2: Calm forgets the pages, as often as one likes, and changes nothing else.
func TestCalm(t *testing.T) {
	h, want := some(t)
	for range 3 {
		checkPut(t, h, 4*size+1, 1, true)
		checkPutWord(t, h, size-1, 0x01010101, true)
		want.put(4*size+1, 1).put(size-1, 1, 1, 1, 1)
		checkTurned(t, "written", h.memory, 0, 1, 4)
		for range 2 {
			h.memory.Calm()
			h.check(t, "calm", want.calm())
		}
	}
	h = fresh(t, 2)
	h.memory.Calm()
	h.check(t, "calm and new", empty(2))
}

// R2: what Turned told is the caller's, and does not follow the memory.
func TestTurnedIsNew(t *testing.T) {
	h, want := some(t)
	for _, n := range []int{4, 0, 2} {
		checkPut(t, h, uint32(n*size), 0, true)
		want.put(n*size, 0)
	}
	lists := [][]int{h.memory.Turned(), h.memory.Turned(), h.memory.Turned()}
	for i, l := range lists[1:] {
		l = append(l[:1], 9)
		whole := l[:cap(l)]
		for k := range whole {
			whole[k] = -i - 1
		}
	}
	h.check(t, "the lists turned", want)
	checkPut(t, h, size, 1, true)
	want.put(size, 1)
	if !slices.Equal(lists[0], []int{0, 2, 4}) {
		t.Errorf("the first list is %v", lists[0])
	}
	h.check(t, "one more page", want)
	h.memory.Calm()
	if !slices.Equal(lists[0], []int{0, 2, 4}) {
		t.Errorf("the first list is %v behind Calm", lists[0])
	}
}
