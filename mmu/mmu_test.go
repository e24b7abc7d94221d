package mmu_test

import (
	"math"
	"testing"

	"innkeeper/api"
	"innkeeper/mmu"
)

// P10.1: there is no unit without a memory.
func TestNewNil(t *testing.T) {
	if u, errno := mmu.New(nil); u != nil || errno != api.ErrArg {
		t.Errorf("New(nil) is %v, %d", u, errno)
	}
}

// P10.1: a new unit has the memory that it was made on and an empty buffer, the same ones each time, and has changed nothing.
func TestNew(t *testing.T) {
	for _, pages := range []int{1, 2, 5, most} {
		g := bare(t, pages)
		if g.unit.Memory() != g.memory || g.unit.Memory() != g.memory {
			t.Errorf("%d pages: Memory is another one", pages)
		}
		b := g.unit.Buffer()
		if b == nil || b.Len() != 0 || g.unit.Buffer() != b {
			t.Errorf("%d pages: Buffer is %v", pages, b)
		}
		g.check(t, "new")
	}
}

// P10.1: New leaves a memory alone that holds something.
func TestNewOnUsed(t *testing.T) {
	g := tabled(t)
	g.memory.Put(700, 9)
	g.model.put(700, 9)
	u, errno := mmu.New(g.memory)
	if errno != api.OK || u.Memory() != g.memory || u.Buffer().Len() != 0 {
		t.Errorf("New is %v, %d", u, errno)
	}
	g.check(t, "another unit")
}

// R4: of two units on one memory each has its own buffer, and both have the memory.
func TestTwoUnits(t *testing.T) {
	g := tabled(t)
	g.lead(t, 1, 6, every|valid)
	u, _ := mmu.New(g.memory)
	g.checkPlace(t, paged(false), 70, load, answer{v: 6*size + 6})
	if u.Buffer() == g.unit.Buffer() || u.Buffer().Len() != 0 {
		t.Error("the other unit's buffer is filled")
	}
	if trap := u.Store(plain(), leaf(1), 0, 4); trap != none() {
		t.Errorf("Store is %v", trap)
	}
	g.model.keep(leaf(1), 0)
	g.check(t, "the other unit stored")
	g.checkPlace(t, paged(false), 71, load, answer{v: 6*size + 7})
	if v, trap := u.Place(paged(false), 71, load); v != 0 || trap != trapped(loadFault, 71) {
		t.Errorf("the other unit's Place is %d %v", v, trap)
	}
	u.Flush()
	u.Drop(70)
	g.check(t, "the other unit is flushed")
}

// P10.1: without paging an address is its own place, in the memory for each kind, a device's for Load and Store.
func TestPlacePlain(t *testing.T) {
	for _, pages := range []int{1, 3, most} {
		g := bare(t, pages)
		end := uint32(pages * size)
		for _, s := range []mmu.Space{{}, {Super: true}, {Root: root}, {Super: true, Root: math.MaxUint32}} {
			for _, va := range []uint32{0, 1, 63, end - 64, end - 1} {
				for _, kind := range kinds {
					g.checkPlace(t, s, va, kind, answer{v: va})
				}
			}
			for _, va := range []uint32{device, device + 1, device + 63, device + 64, device + 128, device + 254, device + 255} {
				g.checkPlace(t, s, va, fetch, answer{trap: trapped(access, va)})
				g.checkPlace(t, s, va, load, answer{v: va})
				g.checkPlace(t, s, va, store, answer{v: va})
			}
			for _, va := range []uint32{end, end + 1, end + 64, 2 * end, space, device - 64, device - 1, device + 256, device + 257, 2 * device, 1<<16 + device, 1 << 31, 1<<31 + device, math.MaxUint32 - 63, math.MaxUint32} {
				for _, kind := range kinds {
					g.checkPlace(t, s, va, kind, answer{trap: trapped(access, va)})
				}
			}
		}
	}
}

// P10.1: a kind that is none is refused ahead of all else, wherever the address leads, and nothing is walked.
func TestPlaceNoKind(t *testing.T) {
	g := tabled(t)
	g.lead(t, 1, 6, every|valid)
	g.lead(t, 2, devicePage, every|valid)
	g.lead(t, 3, 0, 0)
	g.fill(t, entry(5, 7, math.MaxUint32))
	for _, kind := range noKinds() {
		for _, super := range bools {
			for _, va := range []uint32{0, 64, 127, 128, 192, 5 * 64, space - 1, space, device, device + 255, math.MaxUint32} {
				g.checkPlace(t, mmu.Space{Super: super}, va, kind, answer{trap: trapped(access, va)})
				g.checkPlace(t, paged(super), va, kind, answer{trap: trapped(access, va)})
			}
		}
	}
}

// P10.1: without paging neither the buffer nor the tables are asked, nor changed.
func TestPlacePlainAlone(t *testing.T) {
	g := tabled(t)
	g.lead(t, 1, 6, every|valid)
	g.fill(t, entry(0, 7, math.MaxUint32))
	g.fill(t, entry(2, 500, 0))
	g.fill(t, entry(devicePage, 7, math.MaxUint32))
	for _, kind := range kinds {
		for _, va := range []uint32{0, 9, 64, 127, 128, 16*size - 1} {
			g.checkPlace(t, plain(), va, kind, answer{v: va})
		}
		g.checkPlace(t, plain(), 16*size, kind, answer{trap: trapped(access, 16*size)})
	}
	g.checkPlace(t, plain(), device+3, fetch, answer{trap: trapped(access, device+3)})
	g.checkPlace(t, plain(), device+3, store, answer{v: device + 3})
	g.checkLeaf(t, 1, 6<<8|every|valid)
}

// P10.1: what the buffer lets through is not looked up in the tables, which need not even be there.
func TestPlaceBuffered(t *testing.T) {
	g := tabled(t)
	for _, r := range []uint32{root, 0, 15 * size, 1 << 20, math.MaxUint32} {
		for _, vpn := range []uint32{0, 7, 18, 255, 256, devicePage, lastPage} {
			for _, kind := range kinds {
				for _, super := range bools {
					g.fresh()
					e := entry(vpn, 9, needs(kind, super)-valid)
					if kind == store {
						e.Bits |= dirty
					}
					g.fill(t, e)
					s := mmu.Space{Paging: true, Super: super, Root: r}
					for _, low := range []uint32{0, 1, 33, 63} {
						g.checkPlace(t, s, vpn*size+low, kind, answer{v: 9*size + low})
					}
					g.checkSlot(t, vpn, e)
				}
			}
		}
	}
}

// P10.1: through a leaf entry that the buffer has not, with any bits: it is filled with what the walk leaves in the table, or the walk's trap is told and the buffer is as it was.
func TestPlaceWalked(t *testing.T) {
	g := tabled(t)
	const va = 20*size + 11
	for bits := range uint32(256) {
		for _, kind := range kinds {
			for _, super := range bools {
				g.lead(t, 20, 8, bits)
				g.fresh()
				g.fill(t, entry(4, 5, every|dirty))
				if need := needs(kind, super); bits&need != need {
					g.checkPlace(t, paged(super), va, kind, answer{trap: trapped(faultOf(kind), va)})
					g.checkSlot(t, 20, entry(4, 5, every|dirty))
					g.checkLeaf(t, 20, 8<<8|bits)
					continue
				}
				g.checkPlace(t, paged(super), va, kind, answer{v: 8*size + 11})
				g.checkLeaf(t, 20, 8<<8|bits|marks(kind))
				g.checkSlot(t, 20, entry(20, 8, (bits|marks(kind))&(every|dirty)))
			}
		}
	}
}

// P10.1: each page has its own entry, for all its addresses; a page with the same slot takes another's place, and pages with other slots leave it.
func TestPlacePages(t *testing.T) {
	g := tabled(t)
	for vpn := range uint32(slots) {
		g.lead(t, vpn, 15-vpn, read|valid)
		g.lead(t, 240+vpn, vpn, read|valid)
	}
	s := paged(true)
	for vpn := range uint32(slots) {
		for low := range uint32(size) {
			g.checkPlace(t, s, vpn*size+low, load, answer{v: (15-vpn)*size + low})
		}
		if got := g.unit.Buffer().Len(); got != int(vpn)+1 {
			t.Errorf("behind %d pages the buffer has %d entries", vpn+1, got)
		}
	}
	for vpn := range uint32(slots) {
		g.checkPlace(t, s, (240+vpn)*size+63, load, answer{v: vpn*size + 63})
		g.checkSlot(t, vpn, entry(240+vpn, vpn, read))
		if vpn < slots-1 {
			g.checkSlot(t, vpn+1, entry(vpn+1, 14-vpn, read))
		}
	}
}

// P10.1: a Store goes through the walk as long as the buffer's entry has no Dirty, and sets it in the table and in the buffer.
func TestPlaceWithoutDirty(t *testing.T) {
	for _, super := range bools {
		g := tabled(t)
		s := paged(super)
		g.lead(t, 17, 9, every|valid)
		g.checkPlace(t, s, 17*size, load, answer{v: 9 * size})
		g.checkLeaf(t, 17, 9<<8|every|valid|accessed)
		g.checkSlot(t, 17, entry(17, 9, every))
		g.checkPlace(t, s, 17*size+5, store, answer{v: 9*size + 5})
		g.checkLeaf(t, 17, 9<<8|every|valid|accessed|dirty)
		g.checkSlot(t, 17, entry(17, 9, every|dirty))
		g.lead(t, 17, 0, 0)
		for _, kind := range kinds {
			g.checkPlace(t, s, 17*size+6, kind, answer{v: 9*size + 6})
		}
	}
}

// P10.1: a Store through an entry without Dirty goes where the table leads now, and if it leads nowhere the buffer is as it was.
func TestPlaceWithoutDirtyTurned(t *testing.T) {
	g := tabled(t)
	g.fill(t, entry(17, 9, every))
	g.checkPlace(t, paged(false), 17*size, store, answer{trap: trapped(storeFault, 17*size)})
	g.checkSlot(t, 17, entry(17, 9, every))
	g.lead(t, 17, 10, read|write|valid|user)
	g.checkPlace(t, paged(false), 17*size, load, answer{v: 9 * size})
	g.checkPlace(t, paged(false), 17*size, store, answer{v: 10 * size})
	g.checkSlot(t, 17, entry(17, 10, read|write|user|dirty))
	g.checkPlace(t, paged(false), 17*size, load, answer{v: 10 * size})
}

// P10.1: Dirty that stands in the table already is filled by a Load too, so that a Store needs no walk.
func TestPlaceDirtyAlready(t *testing.T) {
	g := tabled(t)
	g.lead(t, 2, 9, every|valid|dirty)
	g.checkPlace(t, paged(true), 2*size, load, answer{v: 9 * size})
	g.checkSlot(t, 2, entry(2, 9, every|dirty))
	g.lead(t, 2, 0, 0)
	g.checkPlace(t, paged(true), 2*size, store, answer{v: 9 * size})
}

// P10.1: what the buffer's entry does not let through is walked, and the table's word alone counts.
func TestPlaceRefusedByBuffer(t *testing.T) {
	g := tabled(t)
	g.lead(t, 3, 9, every|valid)
	for _, kind := range kinds {
		for _, super := range bools {
			for _, e := range []api.Entry{entry(3, 10, 0), entry(3, 10, user), entry(19, 10, every|dirty), entry(3+1<<26, 10, every|dirty)} {
				g.fresh()
				g.fill(t, e)
				g.checkPlace(t, paged(super), 3*size+1, kind, answer{v: 9*size + 1})
				g.checkSlot(t, 3, entry(3, 9, g.slots[3].Bits))
			}
		}
	}
	g.lead(t, 3, 9, read|write|exec|valid)
	g.fresh()
	for _, kind := range kinds {
		g.checkPlace(t, paged(true), 3*size, kind, answer{v: 9 * size})
		g.checkPlace(t, paged(false), 3*size, kind, answer{trap: trapped(faultOf(kind), 3*size)})
	}
}

// P10.1: a trapped walk tells its own trap, and leaves the buffer as it was, wherever the tables end.
func TestPlaceTrapped(t *testing.T) {
	g := tabled(t)
	for i := range uint32(slots) {
		g.fill(t, entry(32+i, 5, every|dirty))
	}
	g.set(t, root+8, 15<<8)       // not Valid
	g.set(t, root+12, 16<<8|0xff) // its table is behind the memory's end
	g.lead(t, 18, 9, every)       // not Valid
	for _, va := range []uint32{0, 63, 18 * size, 16*size + 1, 64 * size, 32*size + 1<<14, 48 * size, 63*size + 63, space - 1, space, space + 18*size, device, math.MaxUint32} {
		for _, kind := range kinds {
			for _, super := range bools {
				g.checkPlace(t, paged(super), va, kind, answer{trap: trapped(faultOf(kind), va)})
			}
		}
	}
	for _, r := range []uint32{0, 16 * size, 16*size + 1, 1 << 20, math.MaxUint32} {
		for _, kind := range kinds {
			g.checkPlace(t, mmu.Space{Paging: true, Super: true, Root: r}, 17, kind, answer{trap: trapped(faultOf(kind), 17)})
		}
	}
}

// P10.1: a leaf entry that leads to no address of the memory, nor to a device, is walked and filled all the same; then Access is told, from the buffer too.
func TestPlaceNowhere(t *testing.T) {
	for _, pfn := range []uint32{16, 17, 64, 256, devicePage - 1, devicePage + 4, devicePage + 5, devicePage + 1<<10, 1 << 23, 1<<24 - 1} {
		for _, kind := range kinds {
			for _, super := range bools {
				g := tabled(t)
				g.lead(t, 21, pfn, every|valid)
				for _, va := range []uint32{21 * size, 21*size + 63, 21*size + 63} {
					g.checkPlace(t, paged(super), va, kind, answer{trap: trapped(access, va)})
					g.checkLeaf(t, 21, pfn<<8|every|valid|marks(kind))
					g.checkSlot(t, 21, entry(21, pfn, every|marks(kind)&dirty))
				}
			}
		}
	}
}

// P10.1: the four pages of devices are places of a Load and a Store, but not of a Fetch, for which they are filled all the same.
func TestPlaceDevice(t *testing.T) {
	for page := range uint32(4) {
		for _, super := range bools {
			for _, kind := range kinds {
				g := tabled(t)
				g.lead(t, 4, devicePage+page, every|valid)
				for _, low := range []uint32{0, 1, 62, 63} {
					va := 4*size + low
					want := answer{v: device + page*size + low}
					if kind == fetch {
						want = answer{trap: trapped(access, va)}
					}
					g.checkPlace(t, paged(super), va, kind, want)
				}
				g.checkSlot(t, 4, entry(4, devicePage+page, every|marks(kind)&dirty))
				g.checkLeaf(t, 4, (devicePage+page)<<8|every|valid|marks(kind))
			}
		}
	}
}

// P10.1: the tables say who may reach a device; its address by itself is a page like others, which Space is too small for.
func TestPlaceDeviceByTables(t *testing.T) {
	g := tabled(t)
	g.lead(t, 4, devicePage, read|valid)
	g.checkPlace(t, paged(true), 4*size, load, answer{v: device})
	g.checkPlace(t, paged(false), 4*size, load, answer{trap: trapped(loadFault, 4*size)})
	g.checkPlace(t, paged(true), 4*size, store, answer{trap: trapped(storeFault, 4*size)})
	g.checkPlace(t, paged(true), 4*size, fetch, answer{trap: trapped(fetchFault, 4*size)})
	for _, kind := range kinds {
		g.checkPlace(t, paged(true), device, kind, answer{trap: trapped(faultOf(kind), device)})
	}
}

// P10.1: of entries that were put into the buffer by hand, PageSize times the page's number is taken modulo 2^32, ahead of the question whether something is there.
func TestPlaceGreatNumbers(t *testing.T) {
	for _, c := range []struct {
		pfn  uint32
		at   uint32
		have bool
	}{
		{1 << 26, 0, true}, {1<<26 + 15, 15 * size, true}, {1<<26 + 16, 0, false}, {1 << 31, 0, true}, {1<<31 + 3, 3 * size, true}, {1<<26 - 1, 0, false}, {math.MaxUint32, 0, false}, {math.MaxUint32 - 1<<26 + 9, 8 * size, true}, {1 << 25, 0, false},
	} {
		g := tabled(t)
		g.fill(t, entry(7, c.pfn, math.MaxUint32))
		for _, kind := range kinds {
			for _, low := range []uint32{0, 1, 63} {
				want := answer{v: c.at + low}
				if !c.have {
					want = answer{trap: trapped(access, 7*size+low)}
				}
				g.checkPlace(t, paged(false), 7*size+low, kind, want)
			}
		}
	}
	g := tabled(t)
	g.fill(t, entry(8, 1<<31+devicePage+3, math.MaxUint32))
	g.checkPlace(t, paged(false), 8*size+63, load, answer{v: device + 255})
	g.checkPlace(t, paged(false), 8*size+63, store, answer{v: device + 255})
	g.checkPlace(t, paged(false), 8*size+63, fetch, answer{trap: trapped(access, 8*size+63)})
}

// P10.1: an entry by hand of a page that no address has lets none through, and one of the last page lets that page's through.
func TestPlaceGreatPages(t *testing.T) {
	g := tabled(t)
	g.fill(t, entry(lastPage+1, 9, math.MaxUint32))
	g.fill(t, entry(1<<31+5, 9, math.MaxUint32))
	g.fill(t, entry(lastPage, 9, math.MaxUint32))
	for _, kind := range kinds {
		g.checkPlace(t, paged(true), 0, kind, answer{trap: trapped(faultOf(kind), 0)})
		g.checkPlace(t, paged(true), 5*size, kind, answer{trap: trapped(faultOf(kind), 5*size)})
		g.checkPlace(t, paged(true), math.MaxUint32-63, kind, answer{v: 9 * size})
		g.checkPlace(t, paged(true), math.MaxUint32, kind, answer{v: 9*size + 63})
	}
}

// P10.1: the tables of the Root that is handed in are walked, its six lowest bits without meaning; what the buffer has is kept for each Root.
func TestPlaceRoot(t *testing.T) {
	g := tabled(t)
	g.set(t, 0, 3<<8|valid)
	g.lead(t, 1, 9, every|valid)
	g.lead(t, 17, 10, every|valid)
	s, other := paged(true), mmu.Space{Paging: true, Super: true, Root: 63}
	g.checkPlace(t, s, size, load, answer{v: 9 * size})
	g.checkPlace(t, other, size, load, answer{v: 9 * size})
	g.fresh()
	g.checkPlace(t, other, size, load, answer{v: 10 * size})
	g.checkPlace(t, s, size, load, answer{v: 10 * size})
	g.checkLeaf(t, 1, 9<<8|every|valid|accessed)
	g.fresh()
	for low := range uint32(64) {
		g.fresh()
		g.checkPlace(t, mmu.Space{Paging: true, Super: true, Root: root | low}, size+low, fetch, answer{v: 9*size + low})
	}
}

// P10.1: what is filled is kept although the table is changed, until Drop of the page or Flush.
func TestDropFlush(t *testing.T) {
	g := tabled(t)
	s := paged(false)
	for _, vpn := range []uint32{1, 2, 255} {
		g.lead(t, vpn, 8, every|valid)
		g.checkPlace(t, s, vpn*size, load, answer{v: 8 * size})
		g.lead(t, vpn, 9, every|valid)
		g.checkPlace(t, s, vpn*size, load, answer{v: 8 * size})
	}
	for _, va := range []uint32{0, 3 * size, 17 * size, 16*size + 1, 255*size - 1, 256 * size, 2*size + 1<<10, math.MaxUint32} {
		g.unit.Drop(va)
		g.check(t, "Drop of another page")
	}
	g.unit.Drop(1*size + 63)
	g.slots[1] = api.Entry{}
	g.check(t, "Drop")
	g.checkPlace(t, s, size, load, answer{v: 9 * size})
	g.checkPlace(t, s, 2*size, load, answer{v: 8 * size})
	g.checkPlace(t, s, 255*size, load, answer{v: 8 * size})
	g.unit.Drop(255 * size)
	g.slots[15] = api.Entry{}
	g.lead(t, 255, 0, 0)
	g.checkPlace(t, s, 255*size, load, answer{trap: trapped(loadFault, 255*size)})
	g.unit.Flush()
	g.slots = [slots]api.Entry{}
	g.check(t, "Flush")
	g.checkPlace(t, s, 2*size, load, answer{v: 9 * size})
	g.unit.Flush()
	g.unit.Flush()
	g.unit.Drop(2 * size)
	g.slots = [slots]api.Entry{}
	g.check(t, "Flush of an empty buffer")
}

// P10.1: Drop and Flush are those of the buffer that Buffer tells, and no more: what the tables hold they leave.
func TestDropFlushBuffer(t *testing.T) {
	g := tabled(t)
	for i := range uint32(slots) {
		g.fill(t, entry(3*i, i, every))
	}
	for i := range uint32(slots) {
		g.unit.Drop(3 * i * size)
		g.slots[3*i%slots] = api.Entry{}
		g.check(t, "Drop")
		if got := g.unit.Buffer().Len(); got != 15-int(i) {
			t.Errorf("behind %d Drops the buffer has %d entries", i+1, got)
		}
	}
	for i := range uint32(slots) {
		g.fill(t, entry(3*i, i, every))
	}
	g.unit.Flush()
	g.slots = [slots]api.Entry{}
	g.check(t, "Flush")
	if got := g.unit.Buffer().Len(); got != 0 {
		t.Errorf("behind Flush the buffer has %d entries", got)
	}
}
