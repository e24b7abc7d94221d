package mmu_test

import (
	"math"
	"slices"
	"testing"

	"innkeeper/api"
	"innkeeper/mmu"
)

// valueOf is the word that some bytes are, the least significant first.
func valueOf(list ...byte) uint32 {
	v := uint32(0)
	for i, b := range list {
		v += uint32(b) << (8 * i)
	}
	return v
}

// P10.2: without paging, Load and Store of each number of bytes from each address on, over the end of a page and up to the memory's end.
func TestPlainBytes(t *testing.T) {
	g := tabled(t)
	for va := uint32(5 * size); va < 16*size; va++ {
		for n := 1; n <= 4; n++ {
			end := va + uint32(n)
			if end > 16*size {
				g.checkLoad(t, plain(), va, n, answer{trap: trapped(access, 16*size)})
				g.checkStore(t, plain(), va, 0xddccbbaa, n, trapped(access, 16*size))
				continue
			}
			list := slices.Clone(g.bytes[va:end])
			g.checkLoad(t, plain(), va, n, answer{v: valueOf(list...)})
			g.checkStore(t, plain(), va, 0xddccbbaa+va*0x01020304, n, none())
			if v, _ := g.unit.Load(plain(), va, n); v != (0xddccbbaa+va*0x01020304)&(math.MaxUint32>>(32-8*n)) {
				t.Errorf("behind Store, Load(%#x, %d) is %#x", va, n, v)
			}
		}
	}
}

// P10.2: the least significant byte stands first.
func TestOrder(t *testing.T) {
	g := bare(t, 2)
	for _, va := range []uint32{0, 3, 60, 61, 62, 63, 64, 124} {
		g.checkStore(t, plain(), va, 0x04030201, 4, none())
		for i := range uint32(4) {
			if b, _ := g.memory.Byte(va + i); b != byte(1+i) {
				t.Errorf("behind Store at %d, byte %d is %d", va, i, b)
			}
		}
		g.checkLoad(t, plain(), va, 1, answer{v: 1})
		g.checkLoad(t, plain(), va, 2, answer{v: 0x0201})
		g.checkLoad(t, plain(), va, 3, answer{v: 0x030201})
		g.checkLoad(t, plain(), va, 4, answer{v: 0x04030201})
	}
}

// P10.2: a Store of fewer bytes leaves those behind them, and of v the lowest ones alone count.
func TestFewer(t *testing.T) {
	g := bare(t, 2)
	for n := 1; n <= 4; n++ {
		for va := uint32(0); va <= 124; va++ {
			g.checkStore(t, plain(), va, math.MaxUint32, 4, none())
			g.checkStore(t, plain(), va, 0x44332211, n, none())
			want := []uint32{0, 0xffffff11, 0xffff2211, 0xff332211, 0x44332211}[n]
			g.checkLoad(t, plain(), va, 4, answer{v: want})
		}
	}
}

// P10.2: numbers of bytes that are none are refused ahead of all else, and nothing is walked.
func TestNoLengths(t *testing.T) {
	g := tabled(t)
	g.lead(t, 1, 6, every|valid)
	g.lead(t, 2, devicePage, every|valid)
	g.fill(t, entry(3, 7, every|dirty))
	list := []uint32{0, 128, 3 * size, 4*size - 1, 16*size - 1, 16 * size, space, device, device + 255, device + 256, math.MaxUint32}
	for low := range uint32(size) {
		list = append(list, size+low)
	}
	for _, n := range noLengths() {
		for _, va := range list {
			for _, s := range []mmu.Space{plain(), paged(true), paged(false)} {
				g.checkLoad(t, s, va, n, answer{trap: trapped(access, va)})
				g.checkStore(t, s, va, 1, n, trapped(access, va))
			}
		}
	}
}

// P10.2: over two pages that lie apart, from each place of the first one on; the second one is translated only if bytes extend into it.
func TestApart(t *testing.T) {
	for _, super := range bools {
		for low := range uint32(size) {
			for n := 1; n <= 4; n++ {
				for _, kind := range []int{load, store} {
					checkApart(t, super, low, n, kind)
				}
			}
		}
	}
}

// checkApart makes one access from page 17 on, which leads to page 12; the page behind it leads to page 6.
func checkApart(t *testing.T, super bool, low uint32, n, kind int) {
	t.Helper()
	g := tabled(t)
	g.lead(t, 17, 12, every|valid)
	g.lead(t, 18, 6, every|valid)
	before := slices.Clone(g.bytes)
	whole := append(slices.Clone(before[12*size:13*size]), before[6*size:7*size]...)
	list := whole[low : low+uint32(n)]
	va := 17*size + low
	if kind == load {
		g.checkLoad(t, paged(super), va, n, answer{v: valueOf(list...)})
	} else {
		g.checkStore(t, paged(super), va, 0xa4a3a2a1, n, none())
		copy(list, []byte{0xa1, 0xa2, 0xa3, 0xa4})
	}
	g.checkLeaf(t, 17, 12<<8|every|valid|marks(kind))
	g.checkSlot(t, 17, entry(17, 12, every|marks(kind)&dirty))
	if low+uint32(n) > size {
		g.checkLeaf(t, 18, 6<<8|every|valid|marks(kind))
		g.checkSlot(t, 18, entry(18, 6, every|marks(kind)&dirty))
	} else {
		g.checkLeaf(t, 18, 6<<8|every|valid)
		g.checkSlot(t, 18, api.Entry{})
	}
	if !slices.Equal(g.memory.All()[12*size:13*size], whole[:size]) || !slices.Equal(g.memory.All()[6*size:7*size], whole[size:]) {
		t.Errorf("kind %d of %d bytes from %d on: the pages are %v and %v", kind, n, low, g.memory.All()[12*size:13*size], g.memory.All()[6*size:7*size])
	}
}

// way is a page that a test's access leads through: its leaf entry, and the trap's cause, or 0.
type way struct {
	name      string
	pfn, bits uint32
	cause     int
	walked    bool
}

// ways is the pages that an access of a kind may meet, those to a device ahead of the last one.
func ways(kind int) []way {
	lacking := needs(kind, true) - valid
	return []way{
		{"memory", 9, every | valid, 0, true},
		{"not valid", 9, every, faultOf(kind), false},
		{"the kind's bit missing", 9, (every | valid) - lacking, faultOf(kind), false},
		{"not the user's", 9, (every | valid) - user, faultOf(kind), false},
		{"nowhere", 16, every | valid, access, true},
		{"behind the devices", devicePage + 4, every | valid, access, true},
		{"ahead of the devices", devicePage - 1, every | valid, access, true},
		{"device", devicePage, every | valid, 0, true},
		{"last of the devices", devicePage + 3, every | valid, 0, true},
	}
}

func (w way) isDevice() bool { return w.pfn >= devicePage && w.pfn < devicePage+4 }

// P10.2: each pair of pages: the first one's trap ahead of the second one's, both ahead of a device; behind a trap the second page is not walked, and no byte is written.
func TestTraps(t *testing.T) {
	for _, kind := range []int{load, store} {
		for _, first := range ways(kind) {
			for _, second := range ways(kind) {
				for low := uint32(61); low <= 63; low++ {
					for n := int(65 - low); n <= 4; n++ {
						checkTraps(t, kind, first, second, low, n)
					}
				}
			}
		}
	}
}

func checkTraps(t *testing.T, kind int, first, second way, low uint32, n int) {
	t.Helper()
	g := tabled(t)
	g.lead(t, 30, first.pfn, first.bits)
	g.lead(t, 31, second.pfn, second.bits)
	before := slices.Clone(g.bytes[5*size:])
	va, next := uint32(30*size)+low, uint32(31*size)
	want := none()
	switch {
	case first.cause != 0:
		want = trapped(first.cause, va)
	case second.cause != 0:
		want = trapped(second.cause, next)
	case first.isDevice():
		want = trapped(access, va)
	case second.isDevice():
		want = trapped(access, next)
	default:
		return
	}
	g.checkTrap(t, paged(false), va, n, kind, want)
	checkWalked(t, g, 30, kind, first, first.walked)
	checkWalked(t, g, 31, kind, second, first.cause == 0 && second.walked)
	if !slices.Equal(g.memory.All()[5*size:], before) {
		t.Errorf("%s and %s: a trapped access wrote", first.name, second.name)
	}
	g.checkTrap(t, paged(false), va, n, kind, want)
}

// checkWalked: the leaf entry of a page is marked, and the buffer filled with it, if it was walked, and else neither.
func checkWalked(t *testing.T, g *guest, vpn uint32, kind int, w way, walked bool) {
	t.Helper()
	if walked {
		g.checkLeaf(t, vpn, w.pfn<<8|w.bits|marks(kind))
		g.checkSlot(t, vpn, entry(vpn, w.pfn, every|marks(kind)&dirty))
		return
	}
	g.checkLeaf(t, vpn, w.pfn<<8|w.bits)
	g.checkSlot(t, vpn, api.Entry{})
}

// P10.2: an access that ends with its page does not hang on the page behind it.
func TestNextUntouched(t *testing.T) {
	for _, kind := range []int{load, store} {
		for _, second := range ways(kind) {
			for n := 1; n <= 4; n++ {
				g := tabled(t)
				g.lead(t, 3, 8, every|valid)
				g.lead(t, 4, second.pfn, second.bits)
				va := 4*size - uint32(n)
				list := g.bytes[9*size-n : 9*size]
				if kind == load {
					g.checkLoad(t, paged(false), va, n, answer{v: valueOf(list...)})
				} else {
					g.checkStore(t, paged(false), va, 0x99887766, n, none())
				}
				checkWalked(t, g, 4, kind, second, false)
			}
		}
	}
}

// P10.2: a single page's trap is told, of each kind, from each place in it.
func TestTrapsOfOnePage(t *testing.T) {
	for _, kind := range []int{load, store} {
		for _, w := range ways(kind)[1:] {
			for _, low := range []uint32{0, 1, 31, 60, 63} {
				for n := 1; n <= 4 && low+uint32(n) <= size; n++ {
					g := tabled(t)
					g.lead(t, 30, w.pfn, w.bits)
					cause := w.cause
					if cause == 0 {
						cause = access
					}
					g.checkTrap(t, paged(false), 30*size+low, n, kind, trapped(cause, 30*size+low))
					checkWalked(t, g, 30, kind, w, w.walked)
				}
			}
		}
	}
}

// P10.2: a Load needs no Write and sets no Dirty, and a Store needs no Read; a supervisor needs no User.
func TestKinds(t *testing.T) {
	g := tabled(t)
	g.lead(t, 1, 9, read|valid)
	g.lead(t, 2, 10, write|valid)
	v, w := valueOf(g.bytes[9*size:9*size+4]...), valueOf(g.bytes[10*size:10*size+4]...)
	g.checkLoad(t, paged(false), size, 4, answer{trap: trapped(loadFault, size)})
	g.checkStore(t, paged(false), 2*size, 1, 4, trapped(storeFault, 2*size))
	g.checkLoad(t, paged(true), size, 4, answer{v: v})
	g.checkStore(t, paged(true), size, 1, 4, trapped(storeFault, size))
	g.checkLoad(t, paged(true), 2*size, 4, answer{trap: trapped(loadFault, 2*size)})
	g.checkStore(t, paged(true), 2*size, ^w, 4, none())
	g.checkLeaf(t, 1, 9<<8|read|valid|accessed)
	g.checkLeaf(t, 2, 10<<8|write|valid|accessed|dirty)
}

// P10.2: without paging, devices and what is around them and behind the memory.
func TestPlainTraps(t *testing.T) {
	for _, pages := range []int{1, 3, most} {
		g := bare(t, pages)
		end := uint32(pages * size)
		for _, c := range []struct {
			va    uint32
			n     int
			where uint32
		}{
			{end - 1, 2, end}, {end - 2, 3, end}, {end - 3, 4, end}, {end - 1, 4, end},
			{end, 1, end}, {end + 1, 4, end + 1}, {2*end - 1, 4, 2*end - 1},
			{device - 1, 1, device - 1}, {device - 1, 2, device - 1}, {device - 3, 4, device - 3},
			{device, 1, device}, {device, 4, device}, {device + 3, 1, device + 3}, {device + 60, 4, device + 60},
			{device + 61, 4, device + 61}, {device + 63, 2, device + 63}, {device + 255, 1, device + 255}, {device + 252, 4, device + 252},
			{device + 253, 4, device + 256}, {device + 255, 2, device + 256}, {device + 256, 1, device + 256}, {device + 256, 4, device + 256},
			{1 << 31, 4, 1 << 31}, {math.MaxUint32 - 3, 4, math.MaxUint32 - 3}, {math.MaxUint32 - 2, 4, math.MaxUint32 - 2}, {math.MaxUint32, 1, math.MaxUint32}, {math.MaxUint32, 2, math.MaxUint32}, {math.MaxUint32, 4, math.MaxUint32},
		} {
			for _, super := range bools {
				s := mmu.Space{Super: super, Root: root}
				g.checkLoad(t, s, c.va, c.n, answer{trap: trapped(access, c.where)})
				g.checkStore(t, s, c.va, math.MaxUint32, c.n, trapped(access, c.where))
			}
		}
		for n := 1; n <= 4; n++ {
			g.checkStore(t, plain(), end-uint32(n), 0x87654321, n, none())
			g.checkLoad(t, plain(), end-uint32(n), n, answer{v: 0x87654321 & (math.MaxUint32 >> (32 - 8*n))})
		}
	}
}

// P10.2: the page behind the last one of all addresses is page 0.
func TestLastPage(t *testing.T) {
	for low := uint32(61); low <= 63; low++ {
		g := tabled(t)
		g.fill(t, entry(lastPage, 11, every|dirty))
		g.lead(t, 0, 7, every|valid)
		va := lastPage*size + low
		list := append(slices.Clone(g.bytes[11*size+low:12*size]), g.bytes[7*size:7*size+3]...)[:4]
		g.checkLoad(t, paged(false), va, 4, answer{v: valueOf(list...)})
		g.checkLeaf(t, 0, 7<<8|every|valid|accessed)
		g.checkSlot(t, 0, entry(0, 7, every))
		g.checkStore(t, paged(false), va, 0x0c0b0a09, 4, none())
		g.checkLeaf(t, 0, 7<<8|every|valid|accessed|dirty)
		for i := range 4 {
			got, _ := g.memory.Byte(11*size + low + uint32(i))
			if low+uint32(i) >= size {
				got, _ = g.memory.Byte(7*size + low + uint32(i) - size)
			}
			if got != byte(9+i) {
				t.Errorf("from %#x on, byte %d is %d", va, i, got)
			}
		}
	}
}

// P10.2: the traps over the end of all addresses: the next page's address is 0.
func TestLastPageTraps(t *testing.T) {
	for _, kind := range []int{load, store} {
		g := tabled(t)
		s := paged(false)
		g.checkTrap(t, s, math.MaxUint32, 1, kind, trapped(faultOf(kind), math.MaxUint32))
		g.checkTrap(t, s, math.MaxUint32-2, 4, kind, trapped(faultOf(kind), math.MaxUint32-2))
		g.fill(t, entry(lastPage, 11, every|dirty))
		g.checkTrap(t, s, math.MaxUint32, 2, kind, trapped(faultOf(kind), 0))
		g.checkTrap(t, s, math.MaxUint32-2, 4, kind, trapped(faultOf(kind), 0))
		g.lead(t, 0, 16, every|valid)
		g.checkTrap(t, s, math.MaxUint32, 4, kind, trapped(access, 0))
		g.fill(t, entry(0, devicePage, every|dirty))
		g.checkTrap(t, s, math.MaxUint32, 4, kind, trapped(access, 0))
		g.fill(t, entry(lastPage, devicePage, every|dirty))
		g.checkTrap(t, s, math.MaxUint32, 4, kind, trapped(access, math.MaxUint32))
		g.fill(t, entry(0, 16, every|dirty))
		g.checkTrap(t, s, math.MaxUint32, 4, kind, trapped(access, 0))
	}
}

// P10.2: over the end of the guest's space the second page has no leaf entry, and is reached through the buffer alone.
func TestSpaceEnd(t *testing.T) {
	for _, kind := range []int{load, store} {
		g := tabled(t)
		g.lead(t, 255, 9, every|valid)
		g.lead(t, 0, 10, every|valid)
		g.checkTrap(t, paged(false), space-1, 2, kind, trapped(faultOf(kind), space))
		checkWalked(t, g, 255, kind, way{pfn: 9, bits: every | valid}, true)
		g.checkLeaf(t, 0, 10<<8|every|valid)
		g.fill(t, entry(256, 14, every|dirty))
		if kind == load {
			g.checkLoad(t, paged(false), space-1, 2, answer{v: valueOf(g.bytes[10*size-1], g.bytes[14*size])})
			continue
		}
		g.checkStore(t, paged(false), space-1, 0x0605, 2, none())
	}
}

// P10.2: entries by hand with great page numbers lead where PageSize times them does, modulo 2^32.
func TestGreatNumbers(t *testing.T) {
	g := tabled(t)
	g.fill(t, entry(4, 1<<26+15, every|dirty))
	g.fill(t, entry(5, 1<<31+5, every|dirty))
	g.checkStore(t, paged(false), 5*size-1, 0x2211, 2, none())
	g.checkLoad(t, plain(), 16*size-1, 1, answer{v: 0x11})
	g.checkLoad(t, plain(), 5*size, 1, answer{v: 0x22})
	g.checkLoad(t, paged(true), 5*size-1, 2, answer{v: 0x2211})
	g.fill(t, entry(5, 1<<26-1, every|dirty))
	g.checkLoad(t, paged(true), 5*size-1, 2, answer{trap: trapped(access, 5*size)})
	g.fill(t, entry(4, math.MaxUint32, every|dirty))
	g.checkStore(t, paged(true), 5*size-4, 1, 4, trapped(access, 5*size-4))
}

// P10.2: a trapped Store has set Accessed and Dirty of the first page and filled the buffer, which a later one finds; its bytes are not written.
func TestTrappedStore(t *testing.T) {
	g := tabled(t)
	g.lead(t, 5, 9, every|valid)
	list := slices.Clone(g.bytes[9*size : 10*size])
	g.checkStore(t, paged(false), 6*size-2, 0xffffffff, 4, trapped(storeFault, 6*size))
	g.checkLeaf(t, 5, 9<<8|every|valid|accessed|dirty)
	g.checkSlot(t, 5, entry(5, 9, every|dirty))
	if got, _ := g.memory.Page(9); !slices.Equal(got, list) {
		t.Errorf("the page is %v, not %v", got, list)
	}
	g.lead(t, 5, 0, 0)
	g.lead(t, 6, 8, every|valid)
	g.checkStore(t, paged(false), 6*size-2, 0x44332211, 4, none())
	g.checkLoad(t, plain(), 10*size-2, 2, answer{v: 0x2211})
	g.checkLoad(t, plain(), 8*size, 2, answer{v: 0x4433})
}

// P10.2: both pages are translated ahead of any byte: a Store over the second page's own entry goes where that entry led before.
func TestStoreOverNextEntry(t *testing.T) {
	g := tabled(t)
	g.lead(t, 14, 2, every|valid)
	g.lead(t, 15, 9, every|valid)
	g.checkStore(t, paged(false), 15*size-3, 0x77000007, 4, none())
	g.checkLeaf(t, 15, 7<<8|every|valid|accessed|dirty)
	g.checkLoad(t, plain(), 9*size, 1, answer{v: 0x77})
	g.checkLoad(t, paged(false), 15*size, 1, answer{v: 0x77})
	g.unit.Flush()
	g.slots = [slots]api.Entry{}
	g.checkLoad(t, paged(false), 15*size, 1, answer{v: uint32(g.bytes[7*size])})
}

// P10.2: what a Store writes into the page tables stays as it was written; a Load sees the bits that its own walk has set.
func TestOverOwnEntry(t *testing.T) {
	g := tabled(t)
	g.lead(t, 6, 2, every|valid)
	g.checkLoad(t, paged(false), 6*size+24, 4, answer{v: 2<<8 | every | valid | accessed})
	g.checkStore(t, paged(false), 6*size+24, 9<<8|valid, 4, none())
	g.checkLeaf(t, 6, 9<<8|valid)
	g.checkLoad(t, paged(false), 6*size+24, 4, answer{v: 9<<8 | valid})
	g.unit.Drop(6 * size)
	g.slots[6] = api.Entry{}
	g.checkLoad(t, paged(false), 6*size+24, 4, answer{trap: trapped(loadFault, 6*size+24)})
	g.lead(t, 15, 9, every|valid)
	g.lead(t, 16, 3, every|valid)
	g.checkLoad(t, paged(false), 16*size-1, 3, answer{v: valueOf(g.bytes[10*size-1], every|valid|accessed, 3)})
}

// P10.2: two pages that lead to one place.
func TestOnePlaceTwice(t *testing.T) {
	g := tabled(t)
	g.lead(t, 8, 13, every|valid)
	g.lead(t, 9, 13, every|valid)
	g.checkStore(t, paged(false), 9*size-2, 0x44332211, 4, none())
	g.checkLoad(t, plain(), 13*size, 2, answer{v: 0x4433})
	g.checkLoad(t, plain(), 14*size-2, 2, answer{v: 0x2211})
	g.checkLoad(t, paged(false), 9*size-2, 4, answer{v: 0x44332211})
}

// P10.2: a Store turns the pages that it writes into, also with the same bytes; zeros map no page.
func TestStoreTurns(t *testing.T) {
	g := bare(t, 4)
	g.checkStore(t, plain(), 62, 0, 4, none())
	g.checkStore(t, plain(), 62, 0x0100, 3, none())
	g.checkStore(t, plain(), 62, 0x0100, 3, none())
	g.checkStore(t, plain(), 127, 0x0100, 2, none())
	g.checkLoad(t, plain(), 0, 4, answer{})
	g.checkLoad(t, plain(), 190, 4, answer{})
	if got := g.table.Mapped(); !slices.Equal(got, []int{0, 2}) {
		t.Errorf("the pages %v are mapped", got)
	}
}

// P10.3: what a Store has written, a Load sees, whole and byte by byte, through two addresses that lead to its place, and without paging.
func TestSameBytes(t *testing.T) {
	g := tabled(t)
	for i, pfn := range []uint32{12, 6} {
		g.lead(t, 17+uint32(i), pfn, every|valid)
		g.lead(t, 250+uint32(i), pfn, every|valid)
	}
	seed := uint32(1)
	for _, pages := range [][2]uint32{{17, 250}, {250, 17}} {
		for low := range uint32(size) {
			for n := 1; n <= 4; n++ {
				seed = seed*1664525 + 1013904223
				g.checkStore(t, paged(false), pages[0]*size+low, seed, n, none())
				for _, page := range pages {
					g.checkLoad(t, paged(false), page*size+low, n, answer{v: seed & (math.MaxUint32 >> (32 - 8*n))})
				}
				checkByBytes(t, g, pages, low, seed, n)
			}
		}
	}
}

// checkByBytes: each of the n lowest bytes of v is at its place, through both pages and by itself.
func checkByBytes(t *testing.T, g *guest, pages [2]uint32, low, v uint32, n int) {
	t.Helper()
	for i := range uint32(n) {
		want := answer{v: v >> (8 * i) & 255}
		for _, page := range pages {
			g.checkLoad(t, paged(true), page*size+low+i, 1, want)
		}
		at := 12*size + low + i
		if low+i >= size {
			at = 6*size + low + i - size
		}
		g.checkLoad(t, plain(), at, 1, want)
	}
}

// P10.3: bytes that were stored one by one are a word, and those that were stored without paging, or beside the unit, are seen through it.
func TestBytesToWord(t *testing.T) {
	g := tabled(t)
	g.lead(t, 1, 9, every|valid)
	g.lead(t, 2, 11, every|valid)
	for i, b := range []uint32{0x9911, 0x22, 0x33, 0xffffff44} {
		g.checkStore(t, paged(false), 2*size-2+uint32(i), b, 1, none())
	}
	g.checkLoad(t, paged(true), 2*size-2, 4, answer{v: 0x44332211})
	g.checkStore(t, plain(), 10*size-1, 0x55, 1, none())
	g.memory.Put(11*size, 0x66)
	g.model.put(11*size, 0x66)
	g.checkLoad(t, paged(true), 2*size-2, 4, answer{v: 0x44665511})
	if b, ok := g.unit.Memory().Byte(11*size + 1); b != 0x44 || !ok {
		t.Errorf("the memory's byte is %#x %v", b, ok)
	}
}

// The chapter's examples.
func TestExamples(t *testing.T) {
	g := bare(t, 4)
	if trap := g.unit.Store(mmu.Space{}, 62, 0x04030201, 4); trap != none() {
		t.Errorf("Store is %v", trap)
	}
	if v, trap := g.unit.Load(mmu.Space{}, 64, 2); v != 0x0403 || trap != none() {
		t.Errorf("Load is %#x %v", v, trap)
	}
	if v, trap := g.unit.Load(mmu.Space{}, api.Device, 4); v != 0 || trap.Cause != api.Access || trap.Addr != api.Device {
		t.Errorf("Load of a device is %#x %v", v, trap)
	}
	if at, trap := g.unit.Place(mmu.Space{}, api.Device, api.Load); at != api.Device || trap != none() {
		t.Errorf("Place of a device is %#x %v", at, trap)
	}
}
