package nested_test

import (
	"math"
	"math/rand"
	"testing"

	"innkeeper/api"
	"innkeeper/frames"
	"innkeeper/nested"
)

// P6.1: a new table has its pages, none of them mapped or guarded, and the promise of as many frames.
func TestNew(t *testing.T) {
	for o := range owners {
		for _, pages := range []int{1, 2, 7, most - 1, most} {
			p := frames.New()
			x := checkNew(t, p, o, pages)
			checkBoth(t, "new", p, o, x, empty(pages))
			for page := range pages {
				checkUnmap(t, x, page, api.ErrNone)
				checkGuard(t, x, page, false)
				checkUnguard(t, x, page, false)
			}
			checkBoth(t, "new, asked", p, o, x, empty(pages))
		}
	}
}

// P6.1: without a pool there is no table, whatever else is wrong.
func TestNewNoPool(t *testing.T) {
	for _, o := range append(noOwners(), 0, owners-1) {
		for _, pages := range append(noSizes(), 1, most) {
			checkNoNew(t, nil, o, pages, api.ErrArg)
		}
	}
}

// P6.1: who is no owner gets no table, and a table has from 1 to MaxPages pages; the pool is as it was.
func TestNewWrong(t *testing.T) {
	p := frames.New()
	for _, o := range noOwners() {
		for _, pages := range append(noSizes(), 1, 2, most) {
			checkNoNew(t, p, o, pages, api.ErrArg)
		}
	}
	for o := range owners {
		for _, pages := range noSizes() {
			checkNoNew(t, p, o, pages, api.ErrArg)
		}
	}
	checkUntouched(t, p)
}

// P6.1: an owner that has a promise already, of 0 frames too, gets no table, and keeps its promise.
func TestNewTaken(t *testing.T) {
	for o := range owners {
		for _, n := range []int{0, 1, most} {
			p := frames.New()
			p.Promise(o, n)
			for _, pages := range []int{1, 2, most} {
				checkNoNew(t, p, o, pages, api.ErrTaken)
			}
			if got := p.Promised(o); got != n {
				t.Errorf("Promised(%d) is %d, not %d", o, got, n)
			}
		}
		p := frames.New()
		x := checkNew(t, p, o, 3)
		checkMap(t, x, 1, first)
		checkGuard(t, x, 1, true)
		checkNoNew(t, p, o, 3, api.ErrTaken)
		checkNoNew(t, p, o, 1, api.ErrTaken)
		checkBoth(t, "taken", p, o, x, empty(3).mapping(1, first).guarding(1))
	}
}

// P6.1: the promises together are Frames - Kept at most: one page more than that is refused, and the owner may try anew.
func TestNewFull(t *testing.T) {
	for last := range owners {
		p := frames.New()
		for o := range owners {
			if o != last {
				checkNew(t, p, o, most)
			}
		}
		for _, pages := range []int{most, 50, 49} {
			checkNoNew(t, p, last, pages, api.ErrFull)
			if got := p.Promised(last); got != 0 {
				t.Errorf("Promised(%d) is %d", last, got)
			}
		}
		x := checkNew(t, p, last, 48)
		checkBoth(t, "just enough", p, last, x, empty(48))
	}
}

// P6.1: of several errors New tells its own ErrArg first, then ErrTaken, then ErrFull.
func TestNewOrder(t *testing.T) {
	p := frames.New()
	for o := range 3 {
		checkNew(t, p, o, most)
	}
	for _, pages := range noSizes() {
		checkNoNew(t, p, 0, pages, api.ErrArg)
		checkNoNew(t, p, 3, pages, api.ErrArg)
	}
	checkNoNew(t, p, owners, most, api.ErrArg)
	checkNoNew(t, p, 1, most, api.ErrTaken)
	checkNoNew(t, p, 3, most, api.ErrFull)
}

// P6.1: Map takes the pool's lowest free frame for a page, and Frame tells it.
func TestMap(t *testing.T) {
	p, x, want := some(t)
	for _, page := range []int{0, 3, 5, 6} {
		if f, ok := x.Frame(page); f != want.frames[page] || !ok {
			t.Errorf("Frame(%d) is %d %v", page, f, ok)
		}
	}
	for _, page := range append(noPages(7), 1, 2, 4) {
		if f, ok := x.Frame(page); f != 0 || ok {
			t.Errorf("Frame(%d) is %d %v", page, f, ok)
		}
	}
	p.Give(1, 16)
	checkMap(t, x, 4, 16)
	checkBoth(t, "mapped", p, 2, x, want.mapping(4, 16))
	checkMap(t, x, 1, 22)
	checkMap(t, x, 2, 23)
	checkBoth(t, "all mapped", p, 2, x, want.mapping(1, 22).mapping(2, 23))
}

// P6.1: a page that is mapped stays where it is, with its bytes and its guard, and takes no other frame.
func TestMapTwice(t *testing.T) {
	p, x, want := some(t)
	for page, f := range want.frames {
		p.Put(f, 0, byte(f))
		p.Put(f, size-1, byte(f+100))
		for range 3 {
			checkMap(t, x, page, f)
		}
	}
	checkBoth(t, "twice", p, 2, x, want)
	for _, f := range want.frames {
		low, _ := p.Byte(f, 0)
		high, _ := p.Byte(f, size-1)
		if low != byte(f) || high != byte(f+100) {
			t.Errorf("frame %d has %d and %d", f, low, high)
		}
	}
}

// P6.1: a page that is not there is not mapped, also where the pool would refuse.
func TestMapNoPage(t *testing.T) {
	p, x, want := some(t)
	for _, page := range noPages(7) {
		checkNoMap(t, x, page, api.ErrNone)
		checkUnmap(t, x, page, api.ErrNone)
		checkGuard(t, x, page, false)
		checkUnguard(t, x, page, false)
	}
	checkBoth(t, "no page", p, 2, x, want)
	for i, page := range []int{1, 2, 4} {
		checkMap(t, x, page, 22+i)
	}
	for _, page := range noPages(7) {
		checkNoMap(t, x, page, api.ErrNone)
	}
	y := checkNew(t, p, 0, 1)
	p.Take(0)
	checkNoMap(t, y, 1, api.ErrNone)
	checkNoMap(t, y, -1, api.ErrNone)
	checkNoMap(t, y, 0, api.ErrFull)
}

// P6.1: all pages, in any order, each on the lowest frame that is free then.
func TestMapAll(t *testing.T) {
	for o := range owners {
		for _, pages := range []int{1, 2, 9, most} {
			p := frames.New()
			x := checkNew(t, p, o, pages)
			want := empty(pages)
			for i, page := range rand.New(rand.NewSource(int64(pages))).Perm(pages) {
				checkMap(t, x, page, first+i)
				want.mapping(page, first+i)
				checkBoth(t, "one more", p, o, x, want)
			}
			checkNoMap(t, x, pages, api.ErrNone)
		}
	}
}

// P6.1: Map tells Take's error, and leaves the page as it was: another page's frame that comes back lets it through.
func TestMapFull(t *testing.T) {
	p := frames.New()
	x := checkNew(t, p, 3, 3)
	checkMap(t, x, 2, 16)
	checkTake(t, p, 3, 17, 18)
	for page := range 2 {
		checkNoMap(t, x, page, api.ErrFull)
		checkGuard(t, x, page, false)
		checkUnmap(t, x, page, api.ErrNone)
	}
	checkLook(t, "refused", x, empty(3).mapping(2, 16))
	checkHeld(t, "refused", p, 3, 16, 17, 18)
	checkMap(t, x, 2, 16)
	p.Give(3, 17)
	checkMap(t, x, 0, 17)
	checkNoMap(t, x, 1, api.ErrFull)
	checkUnmap(t, x, 2, api.OK)
	checkMap(t, x, 1, 16)
	checkLook(t, "let through", x, empty(3).mapping(0, 17).mapping(1, 16))
	checkHeld(t, "let through", p, 3, 16, 17, 18)
}

// P6.1: a pool that has dropped the owner's promise gives no frame.
func TestMapDropped(t *testing.T) {
	p := frames.New()
	x := checkNew(t, p, 0, 3)
	p.Drop(0)
	checkNoMap(t, x, 0, api.ErrFull)
	checkLook(t, "dropped", x, empty(3))
}

// P6.1: Unmap gives the frame back, so that nobody holds it, and leaves the other pages.
func TestUnmap(t *testing.T) {
	p, x, want := some(t)
	for i, page := range []int{3, 0, 6, 5} {
		f := want.frames[page]
		free := p.Free()
		checkUnmap(t, x, page, api.OK)
		checkBoth(t, "unmapped", p, 2, x, want.without(page))
		if o, ok := p.Owner(f); ok || o != 0 {
			t.Errorf("frame %d is of %d", f, o)
		}
		if got := p.Free(); got != free+1 {
			t.Errorf("Free is %d, not %d, behind %d pages", got, free+1, i+1)
		}
	}
	checkHeld(t, "the other owner", p, 1, 16, 18)
}

// P6.1: a page that is not mapped cannot be unmapped: never mapped, unmapped before, or not there.
func TestUnmapNothing(t *testing.T) {
	p, x, want := some(t)
	for _, page := range append(noPages(7), 1, 2, 4) {
		checkUnmap(t, x, page, api.ErrNone)
	}
	checkBoth(t, "nothing", p, 2, x, want)
	checkUnmap(t, x, 6, api.OK)
	checkUnmap(t, x, 6, api.ErrNone)
	checkUnmap(t, x, 6, api.ErrNone)
	checkBoth(t, "twice", p, 2, x, want.without(6))
}

// P6.1, W5: a page that is mapped again is not guarded, and its frame's bytes are 0.
func TestMapAgain(t *testing.T) {
	p, x, want := some(t)
	for _, page := range []int{3, 5} {
		f := want.frames[page]
		for at := range size {
			p.Put(f, at, byte(at+1))
		}
		checkUnmap(t, x, page, api.OK)
		checkMap(t, x, page, f)
		want.without(page).mapping(page, f)
		checkBoth(t, "again", p, 2, x, want)
		for at := range size {
			if b, ok := p.Byte(f, at); b != 0 || !ok {
				t.Fatalf("Byte(%d, %d) is %d %v", f, at, b, ok)
			}
		}
	}
	checkUnmap(t, x, 6, api.OK)
	checkUnmap(t, x, 0, api.OK)
	checkMap(t, x, 6, 20)
	checkMap(t, x, 0, 21)
	checkBoth(t, "exchanged", p, 2, x, want.without(0, 6).mapping(6, 20).mapping(0, 21))
}

// P6.1: a frame that was given back beside the table is no hindrance to Unmap, and stays with who holds it now.
func TestUnmapGivenBack(t *testing.T) {
	p, x, want := some(t)
	p.Give(2, 19)
	p.Promise(3, 1)
	checkTake(t, p, 3, 19)
	checkUnmap(t, x, 3, api.OK)
	checkLook(t, "given back", x, want.without(3))
	checkHeld(t, "given back", p, 2, 17, 20, 21)
	checkHeld(t, "given back", p, 3, 19)
	checkUnmap(t, x, 3, api.ErrNone)
}

// P6.1: two tables on one pool never have a frame in common, and neither sees the other.
func TestTwoTables(t *testing.T) {
	p := frames.New()
	x, y := checkNew(t, p, 0, 9), checkNew(t, p, 3, 9)
	a, b := empty(9), empty(9)
	for i := range 9 {
		checkMap(t, x, i, first+2*i)
		checkMap(t, y, 8-i, first+2*i+1)
		a.mapping(i, first+2*i)
		b.mapping(8-i, first+2*i+1)
		checkGuard(t, x, i, true)
		a.guarding(i)
	}
	checkBoth(t, "x", p, 0, x, a)
	checkBoth(t, "y", p, 3, y, b)
	for i := 0; i < 9; i += 2 {
		checkUnmap(t, x, i, api.OK)
		checkUnmap(t, y, i, api.OK)
		checkMap(t, y, i, first+min(2*i, 2*(8-i)+1))
		b.without(i).mapping(i, first+min(2*i, 2*(8-i)+1))
		checkUnguard(t, y, i, true)
		checkBoth(t, "x", p, 0, x, a.without(i))
		checkBoth(t, "y", p, 3, y, b)
	}
}

// R4: two tables on two pools do not know of each other.
func TestTwoPools(t *testing.T) {
	_, x, want := some(t)
	p, y, also := some(t)
	checkUnmap(t, y, 5, api.OK)
	checkMap(t, y, 1, 17)
	checkUnguard(t, y, 3, true)
	delete(also.guarded, 3)
	checkBoth(t, "changed", p, 2, y, also.without(5).mapping(1, 17))
	checkLook(t, "not changed", x, want)
}

// The chapter's examples.
func TestExamples(t *testing.T) {
	x := checkNew(t, frames.New(), 0, most)
	f, errno := x.Map(3)
	if got, ok := x.Frame(3); got != f || !ok || errno != api.OK {
		t.Errorf("Map(3) is %d, %d, Frame(3) is %d %v", f, errno, got, ok)
	}
	checkNoMap(t, x, 64, api.ErrNone)
	checkUnmap(t, x, 3, api.OK)
	if got, ok := x.Frame(3); got != 0 || ok {
		t.Errorf("Frame(3) is %d %v", got, ok)
	}
}

// P6.1, P6.2: whatever is called, in whatever order, tables on one pool are as their models say.
func TestAnyCalls(t *testing.T) {
	for seed := range int64(30) {
		r := rand.New(rand.NewSource(seed))
		p := frames.New()
		var tables [owners]*nested.Table
		var wants [owners]look
		for o := range owners {
			pages := 1 + r.Intn(60)
			tables[o], wants[o] = checkNew(t, p, o, pages), empty(pages)
		}
		for range 300 {
			o := r.Intn(owners)
			play(t, r, p, tables[o], wants[o])
			checkBoth(t, "played", p, o, tables[o], wants[o])
		}
		for o := range owners {
			checkBoth(t, "played to the end", p, o, tables[o], wants[o])
		}
		if t.Failed() {
			t.Fatalf("seed %d", seed)
		}
	}
}

// play makes one call, of a page that is there or not.
func play(t *testing.T, r *rand.Rand, p *frames.Pool, x *nested.Table, want look) {
	t.Helper()
	page := r.Intn(want.pages+2) - 1
	_, mapped := want.frames[page]
	switch r.Intn(6) {
	case 0, 1, 2:
		playMap(t, p, x, want, page)
	case 3:
		errno := api.ErrNone
		if mapped {
			errno = api.OK
		}
		checkUnmap(t, x, page, errno)
		want.without(page)
	case 4:
		checkGuard(t, x, page, mapped)
		if mapped {
			want.guarding(page)
		}
	case 5:
		checkUnguard(t, x, page, mapped)
		delete(want.guarded, page)
	}
}

func playMap(t *testing.T, p *frames.Pool, x *nested.Table, want look, page int) {
	t.Helper()
	if page < 0 || page >= want.pages {
		checkNoMap(t, x, page, api.ErrNone)
		return
	}
	f, mapped := want.frames[page]
	if !mapped {
		f = lowest(p)
	}
	checkMap(t, x, page, f)
	want.mapping(page, f)
}

// lowest is the lowest frame that nobody holds.
func lowest(p *frames.Pool) int {
	for f := first; f < first+all; f++ {
		if _, ok := p.Owner(f); !ok {
			return f
		}
	}
	return math.MaxInt
}
