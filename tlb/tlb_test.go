package tlb_test

import (
	"math"
	"math/rand"
	"testing"

	"innkeeper/api"
	"innkeeper/tlb"
)

// P9.1: a new buffer is empty: no address is found, not even that of page 0, whose VPN a zero entry has.
func TestNew(t *testing.T) {
	b := tlb.New()
	if b == nil {
		t.Fatal("New is nil")
	}
	check(t, "new", b, model{})
	for _, va := range someAddresses() {
		for _, kind := range append(noKinds(), kinds...) {
			for _, super := range supers {
				checkFind(t, b, model{}, va, kind, super, found{})
			}
		}
	}
}

// P9.1: an entry belongs in the slot VPN modulo Entries, and stands there as it was handed in.
func TestFillSlots(t *testing.T) {
	for _, c := range []struct {
		vpn  uint32
		slot int
	}{
		{0, 0}, {1, 1}, {3, 3}, {15, 15}, {16, 0}, {17, 1}, {19, 3}, {31, 15}, {32, 0}, {255, 15}, {256, 0}, {lastPage, 15}, {lastPage + 1, 0}, {1 << 31, 0}, {math.MaxUint32 - 1, 14}, {math.MaxUint32, 15},
	} {
		b := tlb.New()
		e := entry(c.vpn, 77, every)
		if !b.Fill(e) {
			t.Errorf("Fill(%v) is false", e)
		}
		for i := range slots {
			want := api.Entry{}
			if i == c.slot {
				want = e
			}
			if got := b.At(i); got != want {
				t.Errorf("Fill(%v): At(%d) is %v, not %v", e, i, got, want)
			}
		}
		if b.Len() != 1 {
			t.Errorf("Fill(%v): Len is %d", e, b.Len())
		}
	}
}

// P9.1: an entry is kept whole, whatever its numbers and bits are.
func TestFillAny(t *testing.T) {
	numbers := []uint32{0, 1, 63, 64, 255, 256, 1<<24 - 1, 1 << 26, 1<<31 - 1, 1 << 31, math.MaxUint32}
	for _, vpn := range numbers {
		for _, pfn := range numbers {
			for _, bits := range numbers {
				filled(t, entry(vpn, pfn, bits))
			}
		}
	}
}

// P9.1: an entry that is not Valid is refused, whatever else it has, and changes nothing, in a slot that is empty or not.
func TestFillNotValid(t *testing.T) {
	b, m := tlb.New(), model{}
	for _, vpn := range []uint32{0, 3, 15, 16, lastPage, math.MaxUint32} {
		checkNoFill(t, b, m, api.Entry{VPN: vpn, PFN: 9, Bits: every | valid})
		checkNoFill(t, b, m, api.Entry{VPN: vpn})
		checkFinds(t, b, m, vpn*size)
	}
	b, m = full(t)
	for _, e := range m {
		checkNoFill(t, b, m, api.Entry{VPN: e.VPN, PFN: e.PFN, Bits: e.Bits})
		checkNoFill(t, b, m, api.Entry{VPN: e.VPN + slots, PFN: 1, Bits: math.MaxUint32})
		checkNoFill(t, b, m, api.Entry{})
		checkFinds(t, b, m, e.VPN*size)
	}
}

// P9.1: of two entries with the same slot the later one stays, also if it allows less, or is that of the same page.
func TestFillUpon(t *testing.T) {
	b, m := filled(t, entry(3, 9, every))
	m = checkFill(t, b, m, entry(19, 10, read))
	checkFind(t, b, m, 3*size, load, true, found{})
	checkFind(t, b, m, 19*size+1, load, true, found{641, true})
	m = checkFill(t, b, m, entry(19, 11, read|user))
	checkFind(t, b, m, 19*size+1, load, false, found{705, true})
	m = checkFill(t, b, m, entry(19, 12, 0))
	checkFinds(t, b, m, 19*size)
	checkFind(t, b, m, 19*size, load, true, found{})
	m = checkFill(t, b, m, entry(3, 13, every))
	checkFind(t, b, m, 3*size+63, store, false, found{895, true})
	checkFind(t, b, m, 19*size, load, true, found{})
}

// P9.1: the slots do not know of each other: each page is found by itself, and each slot is filled by one entry.
func TestFillAll(t *testing.T) {
	b, m := tlb.New(), model{}
	for i := range uint32(3 * slots) {
		m = checkFill(t, b, m, entry(5*i, 1000-i, every))
		if want := min(int(i)+1, slots); b.Len() != want {
			t.Errorf("behind %d entries Len is %d", i+1, b.Len())
		}
		for j := range i + 1 {
			want := found{}
			if i-j < slots {
				want = found{(1000-j)*size + j, true}
			}
			checkFind(t, b, m, 5*j*size+j, load, false, want)
		}
	}
}

// P9.1: of all bits of an entry, those alone that the access needs let it through, and each of them must be there.
func TestFindBits(t *testing.T) {
	b := tlb.New()
	for bits := range uint32(256) {
		for _, above := range []uint32{0, 0xffffff00} {
			m := checkFill(t, b, model{}, entry(7, 5, bits|above))
			for _, kind := range kinds {
				for _, super := range supers {
					want := found{}
					if need := needs(kind, super); bits&need == need {
						want = found{5*size + 8, true}
					}
					checkFind(t, b, m, 7*size+8, kind, super, want)
				}
			}
		}
	}
}

// P9.1: each bit that an access needs, missing by itself, keeps it from being found; with these alone it is found.
func TestFindMissingBit(t *testing.T) {
	for _, kind := range kinds {
		for _, super := range supers {
			need := needs(kind, super)
			for bit := uint32(1); bit != 0; bit *= 2 {
				if need&bit != 0 {
					b, m := filled(t, entry(2, 6, math.MaxUint32&^bit))
					checkFind(t, b, m, 2*size, kind, super, found{})
				}
			}
			b, m := filled(t, entry(2, 6, need))
			checkFind(t, b, m, 2*size, kind, super, found{6 * size, true})
		}
	}
}

// P9.1: what a user may not reach a supervisor may; User by itself lets nobody through, and neither do Valid and Accessed.
func TestFindUser(t *testing.T) {
	for _, kind := range kinds {
		b, m := filled(t, entry(1, 4, every&^user))
		checkFind(t, b, m, size+3, kind, false, found{})
		checkFind(t, b, m, size+3, kind, true, found{4*size + 3, true})
		for _, super := range supers {
			b, m = filled(t, entry(1, 4, every))
			checkFind(t, b, m, size+3, kind, super, found{4*size + 3, true})
			b, m = filled(t, entry(1, 4, user|valid|accessed))
			checkFind(t, b, m, size+3, kind, super, found{})
		}
	}
}

// P9.1: a kind that is none finds nothing, whatever the entry allows.
func TestFindNoKind(t *testing.T) {
	b, m := filled(t, entry(0, 4, math.MaxUint32), entry(17, 4, every), entry(2, 4, 0))
	for _, kind := range noKinds() {
		for _, super := range supers {
			for _, va := range []uint32{0, 63, 17 * size, 2 * size, 3 * size} {
				checkFind(t, b, m, va, kind, super, found{})
			}
		}
	}
}

// P9.1: all addresses of an entry's page are found, each at its own place, and none of the pages beside it or with the same slot.
func TestFindAddresses(t *testing.T) {
	for _, vpn := range []uint32{0, 1, 15, 16, 255, 256, 0x2000001, lastPage} {
		b, m := filled(t, entry(vpn, 3, every))
		for low := range uint32(size) {
			checkFind(t, b, m, vpn*size+low, fetch, false, found{3*size + low, true})
		}
		for _, other := range []uint32{vpn - 32, vpn - 16, vpn - 1, vpn + 1, vpn + 16, vpn + 32, vpn + 256, vpn + 1<<25} {
			if other %= lastPage + 1; other != vpn {
				checkFind(t, b, m, other*size, fetch, true, found{})
				checkFind(t, b, m, other*size+63, fetch, true, found{})
			}
		}
	}
}

// P9.1: the addresses that the document's limits name: the first ones, Space, which the buffer does not refuse, and the last one.
func TestFindEdges(t *testing.T) {
	b, m := filled(t, entry(0, 10, every), entry(1, 20, every))
	checkFind(t, b, m, 0, load, false, found{640, true})
	checkFind(t, b, m, 63, load, false, found{703, true})
	checkFind(t, b, m, 64, load, false, found{1280, true})
	checkFind(t, b, m, 127, load, false, found{1343, true})
	checkFind(t, b, m, 128, load, false, found{})
	checkFind(t, b, m, space, load, false, found{})
	checkFind(t, b, m, math.MaxUint32, load, false, found{})
	m = checkFill(t, b, m, entry(256, 30, every))
	m = checkFill(t, b, m, entry(0x3ffffff, 40, every))
	checkFind(t, b, m, 0, load, false, found{})
	checkFind(t, b, m, space, load, false, found{1920, true})
	checkFind(t, b, m, space+63, store, true, found{1983, true})
	checkFind(t, b, m, math.MaxUint32-63, load, false, found{2560, true})
	checkFind(t, b, m, math.MaxUint32, load, false, found{2623, true})
}

// P9.1: an entry whose VPN no address has is found by none, not even by the address of its lower bits.
func TestFindGreatVPN(t *testing.T) {
	for _, vpn := range []uint32{lastPage + 1, lastPage + 8, 1 << 31, 1<<31 + 7, math.MaxUint32 - 15, math.MaxUint32} {
		b, m := filled(t, entry(vpn, 1, every))
		for _, va := range []uint32{vpn, vpn * size, vpn*size + 63, vpn % slots * size, vpn % (lastPage + 1) * size} {
			checkFind(t, b, m, va, load, true, found{})
			checkDrop(t, b, va, m)
		}
	}
}

// P9.1: PageSize times the PFN is taken modulo 2^32.
func TestFindGreatPFN(t *testing.T) {
	for _, c := range []struct{ pfn, va, want uint32 }{
		{0, 7*size + 5, 5}, {1<<26 - 1, 7 * size, 0xffffffc0}, {1<<26 - 1, 7*size + 63, math.MaxUint32}, {1 << 26, 7 * size, 0}, {1 << 26, 7*size + 63, 63}, {1<<26 + 2, 7*size + 1, 129}, {1 << 31, 7*size + 9, 9}, {1<<31 + 1, 7 * size, 64}, {math.MaxUint32, 7 * size, 0xffffffc0}, {math.MaxUint32, 7*size + 63, math.MaxUint32}, {1<<25 + 3, 7*size + 4, 0x800000c4},
	} {
		b, m := filled(t, entry(7, c.pfn, every))
		for _, kind := range kinds {
			checkFind(t, b, m, c.va, kind, false, found{c.want, true})
		}
	}
}

// P9.2: Drop of any address of an entry's page empties its slot, and that one alone.
func TestDrop(t *testing.T) {
	for low := range uint32(size) {
		b, m := full(t)
		for i, e := range m {
			m = m.without(i)
			checkDrop(t, b, e.VPN*size+low, m)
			checkFinds(t, b, m, e.VPN*size+low)
		}
		check(t, "all dropped", b, model{})
	}
}

// P9.2: Drop of an entry's page empties the slot whatever the entry allows, at the edges of the pages too.
func TestDropAnyEntry(t *testing.T) {
	for _, vpn := range []uint32{0, 1, 15, 16, 256, lastPage - 1, lastPage} {
		for _, bits := range []uint32{0, read, user, every, math.MaxUint32} {
			b, _ := filled(t, entry(vpn, 2, bits))
			checkDrop(t, b, vpn*size+63, model{})
		}
	}
}

// P9.2: Drop of another page leaves the slot, which it may share with the entry's.
func TestDropOther(t *testing.T) {
	b, m := full(t)
	for _, e := range m {
		for _, other := range []uint32{e.VPN + slots, e.VPN + 3*slots, e.VPN + 256, lastPage - 15 + e.VPN%slots, e.VPN + 1<<25} {
			checkDrop(t, b, other*size, m)
			checkDrop(t, b, other*size+63, m)
		}
		checkFinds(t, b, m, e.VPN*size)
	}
	b, m = filled(t, entry(4, 1, every))
	for _, va := range []uint32{0, 3 * size, 4*size - 1, 5 * size, math.MaxUint32} {
		checkDrop(t, b, va, m)
	}
}

// P9.2: Drop of an empty slot has no effect, on a new buffer, and a second time.
func TestDropEmpty(t *testing.T) {
	b := tlb.New()
	for _, va := range someAddresses() {
		checkDrop(t, b, va, model{})
	}
	b, m := full(t)
	for range 2 {
		checkDrop(t, b, m[5].VPN*size, m.without(5))
	}
	m = checkFill(t, b, m.without(5), entry(5, 1, every))
	checkFind(t, b, m, 5*size, load, false, found{size, true})
}

// P9.2: Flush empties all slots, of a buffer that is empty, full, or has some entries; it may be filled anew.
func TestFlush(t *testing.T) {
	b := tlb.New()
	for range 2 {
		b.Flush()
		check(t, "Flush of an empty buffer", b, model{})
	}
	b, m := full(t)
	b.Flush()
	check(t, "Flush of a full buffer", b, model{})
	for _, e := range m {
		checkFinds(t, b, model{}, e.VPN*size)
	}
	m = checkFill(t, b, model{}, entry(0, 1, every))
	m = checkFill(t, b, m, entry(31, 2, 0))
	checkFind(t, b, m, 9, store, false, found{size + 9, true})
	b.Flush()
	check(t, "Flush of two entries", b, model{})
}

// P9.2: At of each slot is its entry; of an empty slot, or of a number that is no slot, a zero entry.
func TestAt(t *testing.T) {
	for _, b := range []*tlb.Buffer{tlb.New(), func() *tlb.Buffer { b, _ := full(t); return b }()} {
		for _, i := range noSlots() {
			if got := b.At(i); got != (api.Entry{}) {
				t.Errorf("At(%d) is %v", i, got)
			}
		}
	}
	b, m := filled(t, entry(16, 8, read), entry(15, 9, every))
	if got := b.At(0); got != entry(16, 8, read) {
		t.Errorf("At(0) is %v", got)
	}
	if got := b.At(15); got != entry(15, 9, every) {
		t.Errorf("At(15) is %v", got)
	}
	for i := 1; i < 15; i++ {
		if got := b.At(i); got != (api.Entry{}) {
			t.Errorf("At(%d) is %v", i, got)
		}
	}
	check(t, "asked", b, m)
}

// P9.2, R2: the caller may change what At returned, and what it handed to Fill, without a change of the buffer.
func TestAtIsACopy(t *testing.T) {
	e := entry(3, 9, every)
	b, m := filled(t, e)
	e.Valid, e.PFN, e.Bits = false, 1, 0
	check(t, "the caller's own entry changed", b, m)
	got := b.At(3)
	got.Valid, got.VPN, got.PFN, got.Bits = false, 19, 1, 0
	none := b.At(4)
	none.Valid, none.VPN, none.Bits = true, 4, every
	check(t, "entries of At changed", b, m)
	checkFind(t, b, m, 3*size, store, false, found{9 * size, true})
	checkFind(t, b, m, 4*size, load, true, found{})
}

// The chapter's examples.
func TestExamples(t *testing.T) {
	b := tlb.New()
	b.Fill(api.Entry{Valid: true, VPN: 3, PFN: 1, Bits: every})
	b.Fill(api.Entry{Valid: true, VPN: 19, PFN: 2, Bits: every})
	if at, ok := b.Find(3*64, api.Load, true); at != 0 || ok {
		t.Errorf("Find(3 x 64) is %d %v", at, ok)
	}
	b.Drop(3 * 64)
	if at, ok := b.Find(19*64, api.Load, true); at != 128 || !ok {
		t.Errorf("behind Drop of another page, Find is %d %v", at, ok)
	}
	b.Fill(api.Entry{Valid: true, VPN: 4, PFN: 2, Bits: every &^ dirty})
	for _, super := range supers {
		if at, ok := b.Find(4*64, api.Store, super); at != 0 || ok {
			t.Errorf("Find of a Store without Dirty is %d %v", at, ok)
		}
	}
}

// R4: two buffers do not know of each other.
func TestTwoBuffers(t *testing.T) {
	x, m := full(t)
	y := tlb.New()
	check(t, "the other one is filled", y, model{})
	n := checkFill(t, y, model{}, entry(0, 1, read))
	check(t, "the other one has an entry", x, m)
	x.Flush()
	check(t, "the other one is flushed", y, n)
}

// P9.1, P9.2: whatever is called in turn, two buffers are each as the document's words say.
func TestAnyCalls(t *testing.T) {
	hits := 0
	for seed := range int64(40) {
		r := rand.New(rand.NewSource(seed))
		buffers := []*tlb.Buffer{tlb.New(), tlb.New()}
		models := []model{{}, {}}
		for range 600 {
			i := r.Intn(2)
			hits += play(t, r, buffers[i], &models[i])
			check(t, "the other one", buffers[1-i], models[1-i])
		}
		if t.Failed() {
			t.Fatalf("seed %d", seed)
		}
	}
	if hits < 400 {
		t.Errorf("%d addresses alone were found", hits)
	}
}

// play makes one call; it is 1 if that finds an address.
func play(t *testing.T, r *rand.Rand, b *tlb.Buffer, m *model) int {
	t.Helper()
	va := anyAddress(r)
	switch r.Intn(40) {
	case 0:
		*m = model{}
		b.Flush()
		check(t, "Flush", b, *m)
	case 1, 2, 3, 4, 5, 6:
		if slot := int(va >> 6 & 15); m[slot].VPN == va>>6 {
			*m = m.without(slot)
		}
		checkDrop(t, b, va, *m)
	case 7, 8, 9, 10, 11, 12, 13, 14:
		e := api.Entry{Valid: r.Intn(4) > 0, VPN: va >> 6, PFN: r.Uint32() >> r.Intn(32), Bits: r.Uint32() | r.Uint32()}
		if !e.Valid {
			checkNoFill(t, b, *m, e)
			break
		}
		*m = checkFill(t, b, *m, e)
	default:
		kind, super := r.Intn(5), r.Intn(2) == 0
		want := m.find(va, kind, super)
		checkFind(t, b, *m, va, kind, super, want)
		if want.ok {
			return 1
		}
	}
	return 0
}

// anyAddress is an address that is most often in one of few pages, so that the calls meet.
func anyAddress(r *rand.Rand) uint32 {
	switch r.Intn(12) {
	case 0:
		return r.Uint32()
	case 1:
		return math.MaxUint32 - uint32(r.Intn(5*slots*size))
	}
	return uint32(r.Intn(3))*slots*size + uint32(r.Intn(6))*size + uint32(r.Intn(size))
}
