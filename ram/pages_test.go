package ram_test

import (
	"slices"
	"testing"

	"innkeeper/api"
)

// P7.1: PutPage writes all bytes of a page, the first page and the last one too, and Page tells them.
func TestPutPage(t *testing.T) {
	for _, pages := range []int{1, 2, 5, most} {
		h, want := fresh(t, pages), empty(pages)
		for i, n := range []int{pages - 1, 0, pages / 2, pages - 1} {
			list := filled(size, byte(i))
			checkPutPage(t, h, n, list, true)
			h.check(t, "page", want.put(n*size, list...))
		}
	}
}

// P7.1: a page that is not there has no bytes and takes none, however many are brought.
func TestPutPageNowhere(t *testing.T) {
	h, want := some(t)
	for _, n := range noPages(5) {
		checkPutPage(t, h, n, filled(size, 1), false)
		checkPutPage(t, h, n, make([]byte, size), false)
		for _, list := range wrongLists() {
			checkPutPage(t, h, n, list, false)
		}
	}
	h.check(t, "no page", want)
}

// P7.1: bytes that are not as many as a page has are refused, for each page, and nothing is written of them.
func TestPutPageWrongSize(t *testing.T) {
	h, want := some(t)
	for n := range 5 {
		for _, list := range wrongLists() {
			checkPutPage(t, h, n, list, false)
		}
	}
	h.check(t, "wrong size", want)
	h = fresh(t, 1)
	for _, list := range wrongLists() {
		checkPutPage(t, h, 0, list, false)
	}
	h.check(t, "wrong size", empty(1))
	checkFree(t, "wrong size", h.pool, all)
}

// P7.1: a page of zeros maps no page, and is there in one that is mapped.
func TestPutPageZeros(t *testing.T) {
	zeros := make([]byte, size)
	h, want := fresh(t, 3), empty(3)
	for n := range 3 {
		checkPutPage(t, h, n, zeros, true)
		h.check(t, "zeros", want.put(n*size, zeros...))
	}
	checkFree(t, "zeros", h.pool, all)
	h, want = some(t)
	for _, n := range []int{0, 1, 3, 4} {
		checkPutPage(t, h, n, zeros, true)
		h.check(t, "zeros in some", want.put(n*size, zeros...))
	}
	checkTurned(t, "zeros in some", h.memory, 0, 1, 3, 4)
}

// P7.1: one byte that is not 0, at whatever place of the page, maps it.
func TestPutPageOneByte(t *testing.T) {
	for at := range size {
		h, want := fresh(t, 2), empty(2)
		list := make([]byte, size)
		list[at] = 1
		checkPutPage(t, h, 1, list, true)
		h.check(t, "one byte", want.put(size, list...))
	}
}

// P7.1: Load writes from address 0 on, and leaves what is behind the bytes.
func TestLoad(t *testing.T) {
	for _, n := range []int{0, 1, 2, size - 1, size, size + 1, 2*size + 7, 5*size - 1, 5 * size} {
		h, want := some(t)
		list := filled(n, 3)
		checkLoad(t, h, list, api.OK)
		h.check(t, "loaded", want.put(0, list...))
		h, want = fresh(t, 5), empty(5)
		checkLoad(t, h, list, api.OK)
		h.check(t, "loaded anew", want.put(0, list...))
		checkFree(t, "loaded anew", h.pool, all-(n+size-1)/size)
	}
}

// P7.1: all of the greatest memory is loaded.
func TestLoadMost(t *testing.T) {
	h, want := fresh(t, most), empty(most)
	list := filled(most*size, 2)
	checkLoad(t, h, list, api.OK)
	h.check(t, "all", want.put(0, list...))
	checkLoad(t, h, append(list, 1), api.ErrLong)
	h.check(t, "all, and one more", want)
}

// P7.1: what is longer than the memory is refused, zeros too, and nothing is written of it.
func TestLoadLong(t *testing.T) {
	for _, n := range []int{5*size + 1, 5*size + 2, 6 * size, 4096, 1 << 16} {
		h, want := some(t)
		checkLoad(t, h, filled(n, 1), api.ErrLong)
		checkLoad(t, h, make([]byte, n), api.ErrLong)
		h.check(t, "too long", want)
		h = fresh(t, 1)
		checkLoad(t, h, filled(n, 1), api.ErrLong)
		h.check(t, "too long", empty(1))
		checkFree(t, "too long", h.pool, all)
	}
	h := fresh(t, 1)
	checkLoad(t, h, filled(size+1, 1), api.ErrLong)
	h.check(t, "one too many", empty(1))
}

// P7.1, R4: nothing to load is nothing written, nil or empty.
func TestLoadNothing(t *testing.T) {
	h, want := some(t)
	checkLoad(t, h, nil, api.OK)
	checkLoad(t, h, []byte{}, api.OK)
	checkLoad(t, h, filled(9, 1)[:0], api.OK)
	h.check(t, "nothing", want)
}

// P7.1: loaded zeros map nothing, are there in pages that are mapped, and only pages with other bytes are mapped.
func TestLoadZeros(t *testing.T) {
	h, want := fresh(t, 4), empty(4)
	checkLoad(t, h, make([]byte, 4*size), api.OK)
	h.check(t, "zeros", want.put(0, make([]byte, 4*size)...))
	checkFree(t, "zeros", h.pool, all)
	list := make([]byte, 3*size+5)
	list[size-1], list[3*size] = 1, 2
	checkLoad(t, h, list, api.OK)
	h.check(t, "zeros for the most", want.put(0, list...))
	checkFree(t, "zeros for the most", h.pool, all-2)
	checkLoad(t, h, make([]byte, 3*size), api.OK)
	h.check(t, "zeros over it", want.put(0, make([]byte, 3*size)...))
	checkFree(t, "zeros over it", h.pool, all-2)
}

// P7.1: All is as long as the memory, new or written to.
func TestAll(t *testing.T) {
	for _, pages := range []int{1, 3, most} {
		h, want := fresh(t, pages), empty(pages)
		if got := h.memory.All(); len(got) != pages*64 || !slices.Equal(got, make([]byte, pages*64)) {
			t.Errorf("All of a new memory of %d pages is %v", pages, got)
		}
		last := pages*size - 1
		checkPut(t, h, uint32(last), 4, true)
		checkPut(t, h, 0, 3, true)
		if got := h.memory.All(); !slices.Equal(got, want.put(last, 4).put(0, 3).bytes) {
			t.Errorf("All is %v, not %v", got, want.bytes)
		}
	}
}

// R2: what Page and All told is the caller's: turned or lengthened, it changes neither the memory nor what they told besides.
func TestReadIsNew(t *testing.T) {
	h, want := some(t)
	calls := []func() []byte{
		h.memory.All,
		func() []byte { l, _ := h.memory.Page(1); return l },
		func() []byte { l, _ := h.memory.Page(3); return l },
		func() []byte { l, _ := h.memory.Page(0); return l },
	}
	var lists [][]byte
	for range 3 {
		for _, call := range calls {
			lists = append(lists, call())
		}
	}
	for i, l := range lists {
		l = append(l, 77)
		whole := lists[i][:cap(lists[i])]
		for k := range whole {
			whole[k] = byte(i + 100)
		}
		h.check(t, "a list turned", want)
	}
	for i, l := range lists {
		for k, b := range l[:cap(l)] {
			if b != byte(i+100) {
				t.Fatalf("byte %d of list %d is %d", k, i, b)
			}
		}
	}
}

// R2: what Page and All told does not follow the memory.
func TestReadStays(t *testing.T) {
	h, want := some(t)
	was := want.copied()
	page, _ := h.memory.Page(1)
	whole := h.memory.All()
	checkLoad(t, h, make([]byte, 5*size), api.OK)
	checkPut(t, h, size+1, 250, true)
	if !slices.Equal(page, was.bytes[size:2*size]) || !slices.Equal(whole, was.bytes) {
		t.Errorf("Page is %v and All is %v then", page, whole)
	}
}

// R2: what PutPage and Load were given is the caller's: turned afterwards, it changes nothing of the memory.
func TestGivenIsNotKept(t *testing.T) {
	h, want := some(t)
	list := filled(size, 2)
	checkPutPage(t, h, 2, list, true)
	want.put(2*size, list...)
	more := filled(2*size+9, 1)
	checkLoad(t, h, more, api.OK)
	want.put(0, more...)
	for _, l := range [][]byte{list, more} {
		for i := range l {
			l[i] = 0
		}
	}
	h.check(t, "the lists turned", want)
	h.memory.PutWord(2*size+1, 0x01010101)
	checkPut(t, h, 3, 9, true)
	if list[1] != 0 || more[3] != 0 {
		t.Error("the lists follow the memory")
	}
}

// R2: a list that is handed in as a part of a longer one is read to its own end alone.
func TestGivenPart(t *testing.T) {
	h, want := some(t)
	long := filled(4*size, 1)
	checkPutPage(t, h, 4, long[size:2*size], true)
	h.check(t, "a part", want.put(4*size, long[size:2*size]...))
	checkLoad(t, h, long[:3], api.OK)
	h.check(t, "a part", want.put(0, long[:3]...))
}
