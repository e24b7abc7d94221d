package mmu_test

import (
	"math"
	"math/rand"
	"testing"

	"innkeeper/api"
	"innkeeper/mmu"
)

// tally is how often calls of a play came to an end of some sort.
type tally struct{ places, words, split, traps, refused int }

// P10.1, P10.2, P10.3: whatever is called in turn, the unit, its memory, and its buffer are as the document's words say.
func TestAnyCalls(t *testing.T) {
	var done tally
	for seed := range int64(120) {
		r := rand.New(rand.NewSource(seed))
		g := bare(t, 4+r.Intn(10))
		for range 60 {
			g.anyEntry(t, r)
		}
		for range 500 {
			g.play(t, r, &done)
		}
		if t.Failed() {
			t.Fatalf("seed %d", seed)
		}
	}
	if min(done.places, done.words, done.split, done.traps, done.refused) < 600 {
		t.Errorf("the calls came to too few ends: %+v", done)
	}
}

// play makes one call.
func (g *guest) play(t *testing.T, r *rand.Rand, done *tally) {
	t.Helper()
	s, va := anySpace(r), anyAddress(r)
	switch r.Intn(40) {
	case 0:
		g.unit.Flush()
		g.slots = [slots]api.Entry{}
		g.check(t, "Flush")
	case 1, 2:
		g.unit.Drop(va)
		if slot := va / size % slots; g.slots[slot].VPN == va/size {
			g.slots[slot] = api.Entry{}
		}
		g.check(t, "Drop")
	case 3, 4, 5:
		for range 1 + r.Intn(12) {
			g.anyEntry(t, r)
		}
	case 6:
		g.fill(t, entry(va/size, anyNumber(r)+uint32(r.Intn(3))<<26, r.Uint32()))
	case 7, 8, 9, 10, 11, 12, 13, 14, 15, 16:
		g.playPlace(t, s, va, anyKind(r), done)
	case 17, 18, 19, 20, 21, 22, 23, 24, 25, 26, 27, 28:
		g.playLoad(t, s, va, anyLength(r), done)
	default:
		g.playStore(t, s, va, r.Uint32(), anyLength(r), done)
	}
}

func (g *guest) playPlace(t *testing.T, s mmu.Space, va uint32, kind int, done *tally) {
	t.Helper()
	m := g.copied()
	want := m.place(s, va, kind)
	g.checkPlace(t, s, va, kind, want)
	if want.trap == none() {
		done.places++
	}
	done.count(want.trap)
}

func (g *guest) playLoad(t *testing.T, s mmu.Space, va uint32, n int, done *tally) {
	t.Helper()
	m := g.copied()
	want := m.load(s, va, n)
	g.checkLoad(t, s, va, n, want)
	done.countBytes(va, n, want.trap)
}

func (g *guest) playStore(t *testing.T, s mmu.Space, va, v uint32, n int, done *tally) {
	t.Helper()
	m := g.copied()
	want := m.store(s, va, v, n)
	g.checkStore(t, s, va, v, n, want)
	done.countBytes(va, n, want)
}

// copied is the model as it is now, to be asked without a change of it.
func (m *model) copied() *model {
	c := *m
	c.bytes = append([]byte{}, m.bytes...)
	c.mapped = append([]bool{}, m.mapped...)
	c.turned = append([]bool{}, m.turned...)
	return &c
}

func (d *tally) count(trap api.Trap) {
	switch trap.Cause {
	case 0:
	case access:
		d.refused++
	default:
		d.traps++
	}
}

func (d *tally) countBytes(va uint32, n int, trap api.Trap) {
	d.count(trap)
	if trap != none() {
		return
	}
	d.words++
	if va%size+uint32(n) > size {
		d.split++
	}
}

// anyKind is most often a kind that there is.
func anyKind(r *rand.Rand) int {
	if r.Intn(16) == 0 {
		return 4 * r.Intn(2)
	}
	return 1 + r.Intn(3)
}

// anyLength is most often a number of bytes that an access may have.
func anyLength(r *rand.Rand) int {
	if r.Intn(16) == 0 {
		return 5 * r.Intn(2)
	}
	return 1 + r.Intn(4)
}

// anyEntry writes a word that may be an entry into the first pages, where the tables are.
func (g *guest) anyEntry(t *testing.T, r *rand.Rand) {
	t.Helper()
	a := uint32(r.Intn(2 * size / 4 * 4))
	if r.Intn(6) > 0 {
		a -= a % 4
	}
	g.set(t, a, anyNumber(r)<<8|r.Uint32()&255|r.Uint32()&255|r.Uint32()&127)
}

// anyNumber is the number of a page, most often of the memory, and of the pages of tables more often than of others.
func anyNumber(r *rand.Rand) uint32 {
	switch r.Intn(12) {
	case 0:
		return devicePage + uint32(r.Intn(6)) - 1
	case 1:
		return r.Uint32() >> 8 >> r.Intn(24)
	case 2, 3, 4:
		return uint32(r.Intn(14))
	}
	return uint32(r.Intn(3))
}

// anySpace is most often that of the tables that are there.
func anySpace(r *rand.Rand) mmu.Space {
	s := mmu.Space{Paging: r.Intn(5) > 0, Super: r.Intn(3) > 0, Root: uint32(r.Intn(2 * size))}
	if r.Intn(20) == 0 {
		s.Root = r.Uint32()
	}
	return s
}

// anyAddress is an address that is most often in one of few pages, so that the calls meet, and near the end of it.
func anyAddress(r *rand.Rand) uint32 {
	low := uint32(r.Intn(size))
	if r.Intn(2) == 0 {
		low = 60 + uint32(r.Intn(4))
	}
	switch r.Intn(16) {
	case 0:
		return r.Uint32()
	case 1:
		return math.MaxUint32 - uint32(r.Intn(8))
	case 2:
		return device - 4 + uint32(r.Intn(264))
	case 3:
		return uint32(r.Intn(space + 8))
	}
	return uint32(r.Intn(8)/6)*1024 + uint32(r.Intn(6))*size + low
}
