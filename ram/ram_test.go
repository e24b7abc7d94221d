package ram_test

import (
	"math"
	"math/rand"
	"testing"

	"innkeeper/api"
	"innkeeper/frames"
	"innkeeper/nested"
	"innkeeper/ram"
)

// P7.1: a new memory has PageSize addresses for each page of its table, holds zeros, and has no page mapped.
func TestNew(t *testing.T) {
	for o := range owners {
		for _, pages := range []int{1, 2, 7, most - 1, most} {
			h := onPool(t, frames.New(), o, pages)
			if got := h.memory.Size(); got != uint32(pages*64) {
				t.Errorf("Size of %d pages is %d", pages, got)
			}
			h.check(t, "new", empty(pages))
			checkFree(t, "new", h.pool, all)
		}
	}
}

// P7.1: without a pool, without a table, and without both there is no memory, and what there is of them is as it was.
func TestNewNil(t *testing.T) {
	check := func(p *frames.Pool, x *nested.Table) {
		t.Helper()
		if m, errno := ram.New(p, x); m != nil || errno != api.ErrArg {
			t.Errorf("New is %v, %d", m, errno)
		}
	}
	h := fresh(t, 3)
	check(nil, nil)
	check(nil, h.table)
	check(h.pool, nil)
	h.check(t, "behind what was refused", empty(3))
	checkFree(t, "behind what was refused", h.pool, all)
}

// P7.1: a memory is made of what its table and its pool have already.
func TestNewOnMapped(t *testing.T) {
	p := frames.New()
	x, _ := nested.New(p, 3, 4)
	f, _ := x.Map(2)
	p.Put(f, 5, 55)
	m, errno := ram.New(p, x)
	if errno != api.OK {
		t.Fatal(errno)
	}
	want := empty(4).put(2*size+5, 55).calm()
	host{pool: p, table: x, owner: 3, memory: m}.check(t, "on a mapped page", want)
}

// P7.1: Put at the first and the last address of pages, and Byte there; each write maps its own page alone.
func TestPut(t *testing.T) {
	for _, pages := range []int{1, 2, 5, most} {
		h, want := fresh(t, pages), empty(pages)
		last := pages*size - 1
		for i, at := range []int{last, 0, size - 1, min(size, last), last - 1, last / 2} {
			b := byte(200 + i)
			checkPut(t, h, uint32(at), b, true)
			h.check(t, "put", want.put(at, b))
			checkPut(t, h, uint32(at), b+1, true)
			h.check(t, "put anew", want.put(at, b+1))
		}
	}
}

// P7.1: a Put at what is no address is refused, and changes nothing.
func TestPutNowhere(t *testing.T) {
	h, want := some(t)
	for _, at := range noPlaces(5 * size) {
		for _, b := range []byte{0, 1, 255} {
			checkPut(t, h, at, b, false)
		}
	}
	h.check(t, "nowhere", want)
	h, want = fresh(t, most), empty(most)
	for _, at := range noPlaces(most * size) {
		checkPut(t, h, at, 1, false)
		checkPut(t, h, at, 0, false)
	}
	h.check(t, "nowhere", want)
	checkFree(t, "nowhere", h.pool, all)
}

// P7.1: every byte there is is put and read back at every address.
func TestPutAll(t *testing.T) {
	h, want := fresh(t, 5), empty(5)
	for at := range 5 * size {
		b := byte(at + 13)
		checkPut(t, h, uint32(at), b, true)
		want.put(at, b)
	}
	h.check(t, "all", want)
	checkFree(t, "all", h.pool, all-5)
}

// P7.1: a 0 into a page that is not mapped maps nothing and takes no frame, at whatever place of the page.
func TestPutZeroNotMapped(t *testing.T) {
	h, want := fresh(t, 3), empty(3)
	for at := range 3 * size {
		checkPut(t, h, uint32(at), 0, true)
		want.put(at, 0)
	}
	h.check(t, "zeros", want)
	checkFree(t, "zeros", h.pool, all)
}

// P7.1: a 0 into a page that is mapped is there, and the page stays mapped, even if it is all zeros then.
func TestPutZeroMapped(t *testing.T) {
	h, want := some(t)
	for _, at := range []int{size, size + 1, 2*size - 1, 3 * size, 4*size - 1} {
		checkPut(t, h, uint32(at), 0, true)
		h.check(t, "a zero", want.put(at, 0))
	}
	for at := size; at < 2*size; at++ {
		checkPut(t, h, uint32(at), 0, true)
		want.put(at, 0)
	}
	h.check(t, "a page of zeros", want)
	if !want.mapped[1] {
		t.Error("page 1 is not mapped")
	}
}

// P7.1: PutWord and Word at every place within pages, also over the end of one, least significant byte first.
func TestWordEverywhere(t *testing.T) {
	for at := range 3*size - 3 {
		h, want := fresh(t, 3), empty(3)
		v := 0x04030201 + uint32(at)<<16
		checkPutWord(t, h, uint32(at), v, true)
		h.check(t, "word", want.put(at, wordOf(v)...))
		checkPutWord(t, h, uint32(at), 0xfffefdfc, true)
		h.check(t, "word anew", want.put(at, 0xfc, 0xfd, 0xfe, 0xff))
		if t.Failed() {
			t.Fatalf("at %d", at)
		}
	}
}

// P7.1: a word over the end of a page, with both pages mapped, either one, or neither.
func TestWordOverEnd(t *testing.T) {
	for from := size - 3; from < size; from++ {
		for which := range 4 {
			h, want := fresh(t, 2), empty(2)
			for page := range 2 {
				if which&(1<<page) != 0 {
					checkPut(t, h, uint32(page*size+30), 9, true)
					want.put(page*size+30, 9)
				}
			}
			h.check(t, "made", want)
			checkPutWord(t, h, uint32(from), 0x44332211, true)
			h.check(t, "over the end", want.put(from, 0x11, 0x22, 0x33, 0x44))
		}
	}
}

// P7.1: of a word over the end of a page, the part that is zeros maps no page.
func TestWordPartZero(t *testing.T) {
	for from := size - 3; from < size; from++ {
		for _, v := range []uint32{0x44332211, 0x000000ff, 0xff000000, 0x0000ff00, 0x00ff0000, 0} {
			h, want := fresh(t, 2), empty(2)
			checkPutWord(t, h, uint32(from), v, true)
			h.check(t, "part", want.put(from, wordOf(v)...))
		}
	}
	h := fresh(t, 2)
	checkPutWord(t, h, size-2, 0x0000ffff, true)
	checkFree(t, "the low part", h.pool, all-1)
	h = fresh(t, 2)
	checkPutWord(t, h, size-2, 0xffff0000, true)
	checkFree(t, "the high part", h.pool, all-1)
}

// P7.1: a word of zeros maps nothing wherever no page is mapped, and is there where one is.
func TestWordZero(t *testing.T) {
	h, want := fresh(t, 3), empty(3)
	for at := range 3*size - 3 {
		checkPutWord(t, h, uint32(at), 0, true)
		want.put(at, 0, 0, 0, 0)
	}
	h.check(t, "zeros", want)
	checkFree(t, "zeros", h.pool, all)
	h, want = some(t)
	for _, at := range []int{size - 2, size + 7, 2*size - 3, 3*size - 1, 4*size - 4, 4*size - 1} {
		checkPutWord(t, h, uint32(at), 0, true)
		h.check(t, "zeros in a mapped page", want.put(at, 0, 0, 0, 0))
	}
}

// P7.1: the last word is at Size - 4; behind it, there is none, and nothing is written of one.
func TestWordAtEnd(t *testing.T) {
	for _, pages := range []int{1, 2, most} {
		h, want := fresh(t, pages), empty(pages)
		for _, at := range noWords(pages * size) {
			for _, v := range []uint32{0x04030201, 1, 0, math.MaxUint32} {
				checkPutWord(t, h, at, v, false)
			}
		}
		h.check(t, "behind the end", want)
		checkFree(t, "behind the end", h.pool, all)
		at := pages*size - 4
		checkPutWord(t, h, uint32(at), 0x84838281, true)
		h.check(t, "at the end", want.put(at, 0x81, 0x82, 0x83, 0x84))
		h.memory.Calm()
		for _, at := range noWords(pages * size) {
			checkPutWord(t, h, at, 0x04030201, false)
		}
		h.check(t, "behind the last word", want.calm())
	}
}

// P7.1: a page that is mapped beside the memory holds zeros, one that is unmapped beside it holds them again.
func TestMappedBeside(t *testing.T) {
	h, want := some(t)
	h.table.Map(4)
	want.mapped[4] = true
	h.check(t, "mapped beside", want)
	h.table.Unmap(3)
	want.mapped[3] = false
	clear(want.bytes[3*size : 4*size])
	h.check(t, "unmapped beside", want)
	checkPut(t, h, 3*size+9, 0, true)
	h.check(t, "a zero then", want.put(3*size+9, 0))
	checkPut(t, h, 3*size+9, 5, true)
	h.check(t, "mapped anew", want.put(3*size+9, 5))
}

// W5: a page gets a frame in which no byte of another's is left.
func TestNothingLeft(t *testing.T) {
	p := frames.New()
	h := onPool(t, p, 0, 2)
	checkLoad(t, h, filled(2*size, 1), api.OK)
	p.Drop(0)
	x := onPool(t, p, 1, 2)
	checkPut(t, x, 20, 3, true)
	checkPutWord(t, x, size+20, 0x500, true)
	x.check(t, "nothing left", empty(2).put(20, 3).put(size+20, 0, 5, 0, 0))
}

// R3: a write for which the table gets no frame, as somebody took it beside, is refused and leaves nothing: no byte, no mapped page.
func TestNoFrame(t *testing.T) {
	h, want := fresh(t, 4), empty(4)
	checkPut(t, h, 5, 5, true)
	h.memory.Calm()
	want.put(5, 5).calm()
	for range 2 {
		h.pool.Take(0)
	}
	last := 2*size - 2 // one frame is left: the word over the end of page 1 needs two
	for range 3 {
		checkPutWord(t, h, uint32(last), 0x04030201, false)
		checkLoad(t, h, filled(4*size, 1), api.ErrFull)
	}
	checkBytes(t, "no frame", h.memory, want)
	checkTurned(t, "no frame", h.memory)
	checkFree(t, "no frame", h.pool, all-3)
	checkPut(t, h, size, 1, true)
	checkPutPage(t, h, 2, filled(size, 1), false)
	checkPut(t, h, 3*size, 1, false)
	checkPut(t, h, 3*size, 0, true)
	want.put(size, 1).put(3*size, 0)
	checkBytes(t, "the last frame", h.memory, want)
	checkTurned(t, "the last frame", h.memory, 1, 3)
	checkFree(t, "the last frame", h.pool, all-4)
}

// R1: where the frames were given back beside the memory, it still answers.
func TestFramesGone(t *testing.T) {
	h, want := some(t)
	h.pool.Drop(2)
	clear(want.bytes)
	checkBytes(t, "gone", h.memory, want)
	checkWords(t, "gone", h.memory, want)
	checkPages(t, "gone", h.memory, want)
	checkPut(t, h, 0, 1, false)
	checkPutWord(t, h, size-2, 0x04030201, false)
	h.memory.PutPage(1, filled(size, 1))
	h.memory.Load(filled(2*size, 1))
	checkBytes(t, "gone", h.memory, want)
}

// W5, R4: two memories on one pool: neither sees what is written to the other, and no frame is of both.
func TestTwoMemories(t *testing.T) {
	p := frames.New()
	x, y := onPool(t, p, 0, 4), onPool(t, p, 3, 4)
	a, b := empty(4), empty(4)
	for i := range 4 {
		at := i*size + i
		checkPutWord(t, x, uint32(at), 0x11223344, true)
		checkPutWord(t, y, uint32(at+1), 0x55667788, true)
		x.check(t, "x", a.put(at, 0x44, 0x33, 0x22, 0x11))
		y.check(t, "y", b.put(at+1, 0x88, 0x77, 0x66, 0x55))
	}
	y.memory.Calm()
	x.check(t, "x", a)
	y.check(t, "y", b.calm())
	checkLoad(t, x, make([]byte, 4*size), api.OK)
	x.check(t, "x", a.put(0, make([]byte, 4*size)...))
	y.check(t, "y", b)
	checkPutPage(t, y, 2, filled(size, 2), true)
	x.check(t, "x", a)
	y.check(t, "y", b.put(2*size, filled(size, 2)...))
}

// P7.1: four memories of all frames that there are: each page finds its frame, in whatever order they are written.
func TestAllFrames(t *testing.T) {
	p := frames.New()
	var hosts [owners]host
	var wants [owners]*look
	for o := range owners {
		pages := all / owners
		hosts[o], wants[o] = onPool(t, p, o, pages), empty(pages)
	}
	for i, n := range rand.New(rand.NewSource(1)).Perm(all) {
		o, at := n%owners, n/owners*size+i%size
		checkPut(t, hosts[o], uint32(at), byte(i)|1, true)
		wants[o].put(at, byte(i)|1)
	}
	for o := range owners {
		hosts[o].check(t, "all frames", wants[o])
	}
	checkFree(t, "all frames", p, 0)
}

// R4: two memories on two pools do not know of each other.
func TestTwoPools(t *testing.T) {
	x, a := some(t)
	y, b := some(t)
	checkPut(t, y, 1, 1, true)
	checkPutPage(t, y, 3, make([]byte, size), true)
	y.check(t, "written", b.put(1, 1).put(3*size, make([]byte, size)...))
	x.check(t, "not written", a)
}

// The chapter's examples.
func TestExamples(t *testing.T) {
	h := fresh(t, 2)
	checkPutWord(t, h, 62, 0x04030201, true)
	if b, ok := h.memory.Byte(64); b != 3 || !ok {
		t.Errorf("Byte(64) is %d %v", b, ok)
	}
	if v, ok := h.memory.Word(h.memory.Size() - 3); v != 0 || ok {
		t.Errorf("Word(Size - 3) is %d %v", v, ok)
	}
	for at, b := range fresh(t, most).memory.All() {
		if b != 0 || at >= 4096 {
			t.Errorf("byte %d of a new memory is %d", at, b)
		}
	}
}

// P7.1, P7.2: whatever is called, in whatever order, memories on one pool are as their models say.
func TestAnyCalls(t *testing.T) {
	for seed := range int64(20) {
		r := rand.New(rand.NewSource(seed))
		p := frames.New()
		var hosts [owners]host
		var wants [owners]*look
		for o := range owners {
			pages := 1 + r.Intn(8)
			hosts[o], wants[o] = onPool(t, p, o, pages), empty(pages)
		}
		for range 120 {
			o := r.Intn(owners)
			play(t, r, hosts[o], wants[o])
			hosts[o].check(t, "played", wants[o])
		}
		for o := range owners {
			hosts[o].check(t, "played to the end", wants[o])
		}
		if t.Failed() {
			t.Fatalf("seed %d", seed)
		}
	}
}

// play makes one call, at an address that there is or not.
func play(t *testing.T, r *rand.Rand, h host, want *look) {
	t.Helper()
	end := len(want.bytes)
	at := r.Intn(end + 3)
	v := r.Uint32() >> (8 * r.Intn(5)) << (8 * r.Intn(5))
	switch r.Intn(8) {
	case 0, 1:
		checkPut(t, h, uint32(at), byte(v), at < end)
		if at < end {
			want.put(at, byte(v))
		}
	case 2, 3, 4:
		checkPutWord(t, h, uint32(at), v, at+4 <= end)
		if at+4 <= end {
			want.put(at, wordOf(v)...)
		}
	case 5:
		playPutPage(t, r, h, want)
	case 6:
		playLoad(t, r, h, want)
	default:
		h.memory.Calm()
		want.calm()
	}
}

func playPutPage(t *testing.T, r *rand.Rand, h host, want *look) {
	t.Helper()
	n := r.Intn(want.pages()+2) - 1
	list := playList(r, size-1+r.Intn(2))
	good := 0 <= n && n < want.pages() && len(list) == size
	checkPutPage(t, h, n, list, good)
	if good {
		want.put(n*size, list...)
	}
}

func playLoad(t *testing.T, r *rand.Rand, h host, want *look) {
	t.Helper()
	list := playList(r, r.Intn(len(want.bytes)+2))
	if len(list) > len(want.bytes) {
		checkLoad(t, h, list, api.ErrLong)
		return
	}
	checkLoad(t, h, list, api.OK)
	want.put(0, list...)
}

// playList is n bytes, most of them 0.
func playList(r *rand.Rand, n int) []byte {
	list := make([]byte, n)
	for range r.Intn(4) {
		if n > 0 {
			list[r.Intn(n)] = byte(r.Intn(256))
		}
	}
	return list
}
