package walk_test

import (
	"math"
	"math/rand"
	"testing"

	"innkeeper/api"
	"innkeeper/walk"
)

// P8.1: the cause of each kind, and 0 for what is none.
func TestFault(t *testing.T) {
	for _, kind := range kinds {
		if got := walk.Fault(kind); got != faultOf(kind) {
			t.Errorf("Fault(%d) is %d", kind, got)
		}
	}
	for _, kind := range noKinds() {
		if got := walk.Fault(kind); got != 0 {
			t.Errorf("Fault(%d) is %d", kind, got)
		}
	}
}

// P8.1: the bits of each kind, and Valid and User for what is none, User unless it is a supervisor's.
func TestBits(t *testing.T) {
	for _, super := range supers {
		for _, kind := range kinds {
			if got := walk.Bits(kind, super); got != needs(kind, super) {
				t.Errorf("Bits(%d, %v) is %d", kind, super, got)
			}
		}
	}
	for _, kind := range noKinds() {
		if got := walk.Bits(kind, true); got != valid {
			t.Errorf("Bits(%d, true) is %d", kind, got)
		}
		if got := walk.Bits(kind, false); got != valid|user {
			t.Errorf("Bits(%d, false) is %d", kind, got)
		}
	}
}

// full is a memory of 64 pages with a first-level table in page 1 all of whose entries lead to tables of their own, in the pages 63 downward, all leaf entries different.
func full(t *testing.T) *guest {
	t.Helper()
	g := made(t, most)
	for first := range 16 {
		table := uint32(63 - first)
		g.set(t, 64+4*uint32(first), table<<8|valid)
		for second := range 16 {
			g.set(t, table*64+4*uint32(second), uint32(1+first*16+second)<<8|valid|read)
		}
	}
	return g
}

// P8.1: each page of the address space has its own leaf entry, for all its addresses; the first and the last address are found.
func TestLook(t *testing.T) {
	g := full(t)
	for first := range 16 {
		for second := range 16 {
			want := found{at: uint32((63-first)*64 + 4*second), leaf: uint32(1+first*16+second)<<8 | valid | read, ok: true}
			for _, low := range []int{0, 1, 3, 4, 31, 32, 62, 63} {
				g.checkLook(t, 64, address(first, second, low), want)
			}
		}
	}
	g.checkLook(t, 64, 0, found{at: 63 * 64, leaf: 0x103, ok: true})
	g.checkLook(t, 64, 16383, found{at: 48*64 + 60, leaf: 0x10003, ok: true})
}

// P8.1: there is no leaf entry of an address behind the space, also if the lower bits are those of an address within it, and if the words behind the first-level table are Valid.
func TestLookBehindSpace(t *testing.T) {
	g := full(t)
	for at := uint32(128); at < 40*size; at += 4 {
		g.set(t, at, 63<<8|valid)
	}
	for _, va := range []uint32{space, space + 1, space + 63, space + 64, space + 1024, 2*space - 1, 2 * space, 0x8000, 1 << 16, 1 << 20, 1<<31 - 1, 1 << 31, math.MaxUint32 - 63, math.MaxUint32 - 1, math.MaxUint32} {
		g.checkLook(t, 64, va, found{})
		for _, kind := range kinds {
			g.checkTrap(t, 64, va, kind, true, faultOf(kind))
		}
	}
}

// P8.1: the six lowest bits of the root have no meaning; all others have.
func TestLookRoot(t *testing.T) {
	g := full(t)
	want := found{at: 60 * 64, leaf: 0x3103, ok: true}
	for low := range uint32(64) {
		g.checkLook(t, 64|low, address(3, 0, 0), want)
	}
	for bit := 7; bit < 32; bit++ {
		g.checkLook(t, 64|1<<bit, address(3, 0, 0), g.look(64|1<<bit, address(3, 0, 0)))
	}
	g.checkLook(t, 0, address(3, 0, 0), found{})
	g.checkLook(t, 63, address(3, 0, 0), found{})
	g.checkLook(t, 128, address(3, 0, 0), found{})
}

// P8.1: a first-level table is found in the first page, at the memory's first word, and in the last page, up to the memory's last word, but not behind the end, nor where a sum modulo 2^32 would begin anew.
func TestLookRootAtEnds(t *testing.T) {
	for _, pages := range []int{1, 2, 5, most} {
		g := made(t, pages)
		end := uint32(pages * size)
		g.set(t, 0, 0<<8|valid)
		g.set(t, end-4, 0<<8|valid)
		zero := found{at: 0, leaf: valid, ok: true}
		g.checkLook(t, 0, 0, zero)
		g.checkLook(t, 63, 63, zero)
		g.checkLook(t, end-size, address(15, 0, 0), zero)
		g.checkLook(t, end-1, address(15, 0, 63), zero)
		for _, root := range []uint32{end, end + 1, end + 63, end + 64, 2 * end, 1 << 16, 1<<32 - space, 1 << 31, math.MaxUint32 - 127, math.MaxUint32 - 64, math.MaxUint32 - 63, math.MaxUint32 - 3, math.MaxUint32} {
			for first := range 16 {
				g.checkLook(t, root, address(first, 0, 0), found{})
				g.checkTrap(t, root, address(first, 0, 0), load, true, loadFault)
			}
		}
	}
}

// P8.1: a leaf table is found in the first page and in the last one, up to the memory's last word, but not behind the end.
func TestLookLeafAtEnds(t *testing.T) {
	for _, pages := range []int{2, 3, 7, most} {
		g := made(t, pages)
		last := uint32(pages - 1)
		root := last * size
		g.set(t, root, 0<<8|valid)
		g.set(t, root+4, last<<8|valid)
		g.set(t, root+8, (last+1)<<8|valid)
		g.set(t, 0, 0x12345600)
		g.set(t, 60, 0x12345700)
		g.set(t, root+60, 0x12345800)
		g.checkLook(t, root, address(0, 0, 0), found{at: 0, leaf: 0x12345600, ok: true})
		g.checkLook(t, root, address(0, 15, 0), found{at: 60, leaf: 0x12345700, ok: true})
		g.checkLook(t, root, address(1, 0, 0), found{at: root, leaf: valid, ok: true})
		g.checkLook(t, root, address(1, 15, 0), found{at: root + 60, leaf: 0x12345800, ok: true})
		for second := range 16 {
			g.checkLook(t, root, address(2, second, 0), found{})
			g.checkTrap(t, root, address(2, second, 0), store, true, storeFault)
		}
	}
}

// P8.1: a first-level entry's page number is all its bits from the eighth on, so that no number that is too great leads to a page that there is.
func TestLookGreatNumbers(t *testing.T) {
	g := made(t, most)
	for at := uint32(64); at < most*size; at += 4 {
		g.set(t, at, 2<<8|valid|read|write|exec|user)
	}
	for bit := 6; bit < 24; bit++ {
		for _, n := range []uint32{1 << bit, 1<<bit | 2, 1<<bit | 63} {
			g.set(t, 0, n<<8|valid)
			g.checkLook(t, 0, address(0, 1, 0), found{})
			g.checkTrap(t, 0, address(0, 1, 0), fetch, true, fetchFault)
		}
	}
	for _, n := range []uint32{64, 65, 0x3fffff, 0x400000, 0x400001, 0x7fffff, 0x800000, 0x800002, 0xffffc0, 0xfffffe, 0xffffff} {
		g.set(t, 0, n<<8|0xff)
		for second := range 16 {
			g.checkLook(t, 0, address(0, second, 0), found{})
		}
	}
	g.set(t, 0, 63<<8|valid)
	g.checkLook(t, 0, address(0, 15, 0), found{at: 63*64 + 60, leaf: 2<<8 | 31, ok: true})
}

// P8.1: a first-level entry must be Valid, whatever its other bits are, and Do needs no more of it, as a user either.
func TestLookFirstLevel(t *testing.T) {
	for low := range uint32(256) {
		g := made(t, 4)
		g.set(t, 64+4*5, 2<<8|low)
		g.set(t, 128+4*6, 3<<8|31)
		if low%2 == 0 {
			g.checkLook(t, 64, address(5, 6, 0), found{})
			for _, kind := range kinds {
				g.checkTrap(t, 64, address(5, 6, 0), kind, true, faultOf(kind))
			}
			continue
		}
		g.checkLook(t, 64, address(5, 6, 0), found{at: 128 + 24, leaf: 3<<8 | 31, ok: true})
		va := address(5, 6, 9)
		g.checkDo(t, 64, va, load, false, api.Entry{Valid: true, VPN: 86, PFN: 3, Bits: 30}, 128+24, 3<<8|63)
	}
}

// P8.1: a leaf entry is told as it is, also if it is not Valid, or 0, or stands in a page that is not mapped.
func TestLookAnyLeaf(t *testing.T) {
	g := made(t, 4)
	g.set(t, 0, 3<<8|valid)
	g.checkLook(t, 0, address(0, 7, 0), found{at: 192 + 28, leaf: 0, ok: true})
	g.checkTrap(t, 0, address(0, 7, 0), load, true, loadFault)
	for _, leaf := range []uint32{0, valid, 2, 0xfe, 0xff, 0x100, 0xffffff00, 0xfffffffe, 0xffffffff, 0x80000000, 0x01020304} {
		g.set(t, 192+28, leaf)
		g.checkLook(t, 0, address(0, 7, 0), found{at: 192 + 28, leaf: leaf, ok: true})
	}
}

// R1, P8.2: without a memory there is no leaf entry, and an access is a trap, whatever else is asked.
func TestNoMemory(t *testing.T) {
	for _, va := range []uint32{0, 7, space - 1, space, math.MaxUint32} {
		for _, root := range []uint32{0, 64, math.MaxUint32} {
			if at, leaf, ok := walk.Look(nil, root, va); at != 0 || leaf != 0 || ok {
				t.Errorf("Look(nil, %#x, %#x) is %x %x %v", root, va, at, leaf, ok)
			}
			for _, kind := range append(noKinds(), kinds...) {
				for _, super := range supers {
					e, trap := walk.Do(nil, root, va, kind, super)
					if e != (api.Entry{}) || trap != (api.Trap{Cause: access, Addr: va}) {
						t.Errorf("%s of nil is %v %v", call(root, va, kind, super), e, trap)
					}
				}
			}
		}
	}
}

// P8.2: a kind that is none is told ahead of what the tables refuse, and where they refuse nothing.
func TestDoNoKind(t *testing.T) {
	g := made(t, 4)
	g.set(t, 0, 1<<8|valid)
	g.set(t, 64, 2<<8|valid|read|write|exec|user)
	g.set(t, 68, 2<<8)
	for _, kind := range noKinds() {
		for _, super := range supers {
			for _, va := range []uint32{0, 63, 64, 1024, space - 1, space, math.MaxUint32} {
				g.checkTrap(t, 0, va, kind, super, access)
				g.checkTrap(t, 256, va, kind, super, access)
			}
		}
	}
}

// P8.2: of all leaf entries, those alone that have the bits that an access needs are gone through and marked; the others are as they were.
func TestDoBits(t *testing.T) {
	for _, kind := range kinds {
		for _, super := range supers {
			for low := range uint32(256) {
				g := made(t, 4)
				g.set(t, 64+4*2, 3<<8|valid)
				leaf := 0x123456<<8 | low
				at := uint32(192 + 4*9)
				g.set(t, at, leaf)
				va := address(2, 9, 17)
				if need := needs(kind, super); low&need != need {
					g.checkTrap(t, 64, va, kind, super, faultOf(kind))
					continue
				}
				now := leaves(leaf, kind)
				want := entryOf(va, now)
				g.checkDo(t, 64, va, kind, super, want, at, now)
				g.checkDo(t, 64, va, kind, super, want, at, now)
			}
		}
	}
}

// P8.2: each bit that an access needs, missing by itself, is a fault; with all of them and no more there is none.
func TestDoMissingBit(t *testing.T) {
	g := made(t, 4)
	g.set(t, 0, 1<<8|valid)
	for _, kind := range kinds {
		for _, super := range supers {
			need := needs(kind, super)
			for bit := uint32(1); bit < 128; bit *= 2 {
				if need&bit != 0 {
					g.set(t, 64, 2<<8|0xff&^bit)
					g.checkTrap(t, 0, 5, kind, super, faultOf(kind))
				}
			}
			g.set(t, 64, 2<<8|need)
			now := leaves(2<<8|need, kind)
			g.checkDo(t, 0, 5, kind, super, api.Entry{Valid: true, VPN: 0, PFN: 2, Bits: now & 94}, 64, now)
		}
	}
}

// P8.2: Dirty is set by a Store alone, stays when it is set, and is told as it is then; Accessed is never told.
func TestDoMarks(t *testing.T) {
	for _, c := range []struct {
		kind      int
		was, now  uint32
		bits      uint32
		writesOne bool
	}{
		{fetch, 31, 63, 30, true}, {load, 31, 63, 30, true}, {store, 31, 127, 94, true},
		{fetch, 63, 63, 30, false}, {load, 63, 63, 30, false}, {store, 63, 127, 94, true},
		{fetch, 95, 127, 94, true}, {load, 95, 127, 94, true}, {store, 95, 127, 94, true},
		{fetch, 127, 127, 94, false}, {load, 127, 127, 94, false}, {store, 127, 127, 94, false},
		{fetch, 255, 255, 94, false}, {load, 159, 191, 30, true}, {store, 159, 255, 94, true},
	} {
		g := made(t, 4)
		g.set(t, 0, 3<<8|valid)
		g.set(t, 192, 1<<8|c.was)
		e, trap := walk.Do(g.memory, 0, 0, c.kind, false)
		if e != (api.Entry{Valid: true, PFN: 1, Bits: c.bits}) || trap != (api.Trap{}) {
			t.Errorf("kind %d of %d: %v %v", c.kind, c.was, e, trap)
		}
		if v, _ := g.memory.Word(192); v != 1<<8|c.now {
			t.Errorf("kind %d of %d leaves %x", c.kind, c.was, v)
		}
		if turned := len(g.memory.Turned()) == 1; turned != c.writesOne {
			t.Errorf("kind %d of %d: the pages %v are turned", c.kind, c.was, g.memory.Turned())
		}
	}
}

// P8.2: one access after another finds the entry as the one ahead left it.
func TestDoInTurn(t *testing.T) {
	g := made(t, 8)
	g.set(t, 64, 5<<8|valid)
	at := uint32(5*64 + 4)
	g.set(t, at, 9<<8|valid|read|write|exec)
	want := api.Entry{Valid: true, VPN: 1, PFN: 9, Bits: 14}
	g.checkDo(t, 64, 64, fetch, true, want, at, 9<<8|47)
	g.checkDo(t, 64, 127, load, true, want, at, 9<<8|47)
	want.Bits = 78
	g.checkDo(t, 64, 100, store, true, want, at, 9<<8|111)
	g.checkDo(t, 64, 64, fetch, true, want, at, 9<<8|111)
	g.checkTrap(t, 64, 64, load, false, loadFault)
	g.set(t, at, 9<<8|valid|read|write|exec|user)
	g.checkDo(t, 64, 64, load, false, api.Entry{Valid: true, VPN: 1, PFN: 9, Bits: 30}, at, 9<<8|63)
}

// P8.2: VPN is the address's page, of any page; all other leaf entries and the first-level table stay.
func TestDoAllPages(t *testing.T) {
	g := full(t)
	for vpn := range uint32(256) {
		va := vpn*64 + vpn%64
		was := g.look(64, va)
		want := api.Entry{Valid: true, VPN: vpn, PFN: vpn + 1, Bits: read}
		g.checkDo(t, 64, va, load, true, want, was.at, was.leaf|accessed)
		g.checkTrap(t, 64, va, store, true, storeFault)
	}
}

// P8.2: PFN is all bits of the leaf entry from the eighth on, whether there is such a page or not.
func TestDoNumbers(t *testing.T) {
	g := made(t, 2)
	g.set(t, 0, 1<<8|valid)
	for _, n := range []uint32{0, 1, 2, 63, 64, 255, 256, 0xffff, 0x10000, 0x3fffff, 0x400000, 0x7fffff, 0x800000, 0xfffffe, 0xffffff} {
		g.set(t, 64+60, n<<8|valid|write)
		want := api.Entry{Valid: true, VPN: 15, PFN: n, Bits: write | dirty}
		g.checkDo(t, 0, address(0, 15, 63), store, true, want, 64+60, n<<8|101)
	}
}

// P8.2: a first-level entry is not written, but where it is the leaf entry as well.
func TestDoFirstLevelIsLeaf(t *testing.T) {
	g := made(t, 3)
	g.set(t, 64+4*2, 1<<8|valid|read|write)
	g.set(t, 64+4*3, 0<<8|valid|read)
	va := address(2, 3, 0)
	g.checkDo(t, 64, va, load, true, api.Entry{Valid: true, VPN: va / 64, PFN: 0, Bits: read}, 64+4*3, 0<<8|35)
	va = address(2, 2, 1)
	g.checkDo(t, 64, va, store, true, api.Entry{Valid: true, VPN: va / 64, PFN: 1, Bits: 70}, 64+4*2, 1<<8|103)
	g.checkTrap(t, 64, va, fetch, true, fetchFault)
}

// The chapter's examples.
func TestExamples(t *testing.T) {
	g := made(t, 4)
	g.set(t, 0, 1*256+valid)
	g.set(t, 64, 2*256+valid+read)
	e, trap := walk.Do(g.memory, 0, 0, api.Load, true)
	if e != (api.Entry{Valid: true, PFN: 2, Bits: api.Read}) || trap != (api.Trap{}) {
		t.Errorf("Do of address 0 is %v %v", e, trap)
	}
	if v, _ := g.memory.Word(64); v != 2*256+api.Valid+api.Read+api.Accessed {
		t.Errorf("the leaf entry is %x", v)
	}
	for kind, cause := range map[int]int{api.Fetch: api.FetchFault, api.Load: api.LoadFault, api.Store: api.StoreFault} {
		if e, trap := walk.Do(g.memory, 0, api.Space, kind, true); e.Valid || trap.Cause != cause || trap.Addr != api.Space {
			t.Errorf("Do of the address Space is %v %v", e, trap)
		}
	}
	if e, trap := walk.Do(g.memory, 0, 9, api.Store, true); e.Valid || trap != (api.Trap{Cause: api.StoreFault, Addr: 9}) {
		t.Errorf("a Store without Write is %v %v", e, trap)
	}
}

// R4: two memories do not know of each other.
func TestTwoMemories(t *testing.T) {
	x, y := full(t), full(t)
	was := x.look(64, 5)
	x.checkDo(t, 64, 5, load, true, entryOf(5, was.leaf), was.at, was.leaf|accessed)
	y.check(t, "not gone through")
	y.checkLook(t, 64, 5, was)
}

// P8.1, P8.2: through any tables, to any address, Look and Do are as the document's words say.
func TestAnyTables(t *testing.T) {
	passed := 0
	for seed := range int64(60) {
		r := rand.New(rand.NewSource(seed))
		g := made(t, 1+r.Intn(8))
		for at := 0; at < len(g.bytes); at += 4 {
			g.set(t, uint32(at), anyEntry(r, len(g.bytes)/size))
		}
		for range 200 {
			root, va := uint32(r.Intn(len(g.bytes)+64)), uint32(r.Intn(space+99))
			g.checkLook(t, root, va, g.look(root, va))
			passed += playDo(t, r, g, root, va)
		}
		if t.Failed() {
			t.Fatalf("seed %d", seed)
		}
	}
	if passed < 1000 {
		t.Errorf("%d accesses alone were not refused", passed)
	}
}

// anyEntry is an entry whose bits are as it happens, most often with the number of a page that there is.
func anyEntry(r *rand.Rand, pages int) uint32 {
	if r.Intn(8) == 0 {
		return r.Uint32()
	}
	return uint32(r.Intn(pages+1))<<8 | uint32(r.Intn(256)) | uint32(r.Intn(32))
}

// playDo makes one access of any kind; it is 1 if that is not refused.
func playDo(t *testing.T, r *rand.Rand, g *guest, root, va uint32) int {
	t.Helper()
	kind, super := r.Intn(5), r.Intn(2) == 0
	if kind < fetch || kind > store {
		g.checkTrap(t, root, va, kind, super, access)
		return 0
	}
	leaf := g.look(root, va)
	if need := needs(kind, super); !leaf.ok || leaf.leaf&need != need {
		g.checkTrap(t, root, va, kind, super, faultOf(kind))
		return 0
	}
	now := leaves(leaf.leaf, kind)
	g.checkDo(t, root, va, kind, super, entryOf(va, now), leaf.at, now)
	return 1
}
