package nested_test

import (
	"math/rand"
	"slices"
	"testing"

	"innkeeper/api"
	"innkeeper/frames"
)

// P6.2: Guard marks a mapped page, Unguard takes the mark away, each as often as one likes, and no other page follows.
func TestGuard(t *testing.T) {
	p, x, want := some(t)
	for _, page := range []int{0, 5, 3, 6} {
		checkGuard(t, x, page, true)
		checkBoth(t, "guarded", p, 2, x, want.guarding(page))
		checkGuard(t, x, page, true)
		checkBoth(t, "guarded twice", p, 2, x, want)
	}
	for _, page := range []int{6, 0, 3, 5} {
		checkUnguard(t, x, page, true)
		delete(want.guarded, page)
		checkBoth(t, "not guarded", p, 2, x, want)
		checkUnguard(t, x, page, true)
		checkBoth(t, "not guarded twice", p, 2, x, want)
	}
	checkGuard(t, x, 3, true)
	checkBoth(t, "guarded anew", p, 2, x, want.guarding(3))
}

// P6.2: the first page and the last one of the greatest table are guarded as any.
func TestGuardEdges(t *testing.T) {
	p := frames.New()
	x := checkNew(t, p, 0, most)
	want := empty(most)
	for i, page := range []int{most - 1, 0} {
		checkGuard(t, x, page, false)
		checkMap(t, x, page, first+i)
		checkGuard(t, x, page, true)
		checkBoth(t, "edge", p, 0, x, want.mapping(page, first+i).guarding(page))
	}
	for _, page := range []int{-1, most} {
		checkGuard(t, x, page, false)
		checkUnguard(t, x, page, false)
	}
	checkBoth(t, "behind the edge", p, 0, x, want)
}

// P6.2: a page that is not mapped, or not there, is neither guarded nor unguarded, and no guard waits for it.
func TestGuardNothing(t *testing.T) {
	p, x, want := some(t)
	for _, page := range append(noPages(7), 1, 2, 4) {
		checkGuard(t, x, page, false)
		checkUnguard(t, x, page, false)
		if x.Guarded(page) {
			t.Errorf("Guarded(%d) is true", page)
		}
	}
	checkBoth(t, "nothing", p, 2, x, want)
	for i, page := range []int{1, 2, 4} {
		checkMap(t, x, page, 22+i)
		want.mapping(page, 22+i)
	}
	checkBoth(t, "mapped then", p, 2, x, want)
}

// P6.1, P6.2: the guard goes with the page's frame, and cannot be set before the page is mapped again.
func TestGuardGone(t *testing.T) {
	p, x, want := some(t)
	for _, page := range []int{3, 6} {
		checkUnmap(t, x, page, api.OK)
		checkBoth(t, "gone", p, 2, x, want.without(page))
		checkGuard(t, x, page, false)
		checkUnguard(t, x, page, false)
		checkBoth(t, "not set", p, 2, x, want)
	}
	checkMap(t, x, 6, 19)
	checkMap(t, x, 3, 21)
	checkBoth(t, "mapped again", p, 2, x, want.mapping(6, 19).mapping(3, 21))
	checkGuard(t, x, 6, true)
	checkBoth(t, "guarded again", p, 2, x, want.guarding(6))
}

// P6.2: a guard changes nothing of the frame: neither its bytes nor who holds it.
func TestGuardLeavesBytes(t *testing.T) {
	p, x, want := some(t)
	f := want.frames[5]
	p.Put(f, 7, 77)
	checkGuard(t, x, 5, true)
	checkMap(t, x, 5, f)
	checkUnguard(t, x, 5, true)
	if b, ok := p.Byte(f, 7); b != 77 || !ok {
		t.Errorf("the byte is %d %v", b, ok)
	}
	checkBoth(t, "left", p, 2, x, want)
}

// P6.2: Mapped of no page, of some mapped in another order, of all of them, and of none again.
func TestMapped(t *testing.T) {
	check := func(got []int, want ...int) {
		t.Helper()
		if !slices.Equal(got, want) {
			t.Errorf("Mapped is %v, not %v", got, want)
		}
	}
	x := checkNew(t, frames.New(), 1, 8)
	check(x.Mapped())
	for i, page := range []int{7, 2, 5, 0} {
		checkMap(t, x, page, first+i)
	}
	check(x.Mapped(), 0, 2, 5, 7)
	checkGuard(t, x, 5, true)
	check(x.Mapped(), 0, 2, 5, 7)
	checkUnmap(t, x, 2, api.OK)
	checkMap(t, x, 4, 17)
	check(x.Mapped(), 0, 4, 5, 7)
	for page := range 8 {
		x.Map(page)
	}
	check(x.Mapped(), 0, 1, 2, 3, 4, 5, 6, 7)
	for _, page := range rand.New(rand.NewSource(1)).Perm(8) {
		checkUnmap(t, x, page, api.OK)
	}
	check(x.Mapped())
}

// R2: what Mapped told is the caller's: turned or lengthened, it changes neither the table nor what Mapped told besides.
func TestMappedIsNew(t *testing.T) {
	p, x, want := some(t)
	one, two := x.Mapped(), x.Mapped()
	one = append(one[:2], 98, 99)
	whole := one[:cap(one)]
	for i := range whole {
		whole[i] = 1
	}
	if !slices.Equal(two, []int{0, 3, 5, 6}) {
		t.Errorf("the other list is %v", two)
	}
	checkBoth(t, "the list turned", p, 2, x, want)
	checkMap(t, x, 1, 22)
	checkUnmap(t, x, 0, api.OK)
	if !slices.Equal(two, []int{0, 3, 5, 6}) {
		t.Errorf("the list follows the table: %v", two)
	}
}

// R2: two lists of Mapped share no memory, not even behind their ends.
func TestMappedSharesNothing(t *testing.T) {
	_, x, _ := some(t)
	_, y, _ := some(t)
	lists := [][]int{x.Mapped(), x.Mapped(), y.Mapped(), x.Mapped()}
	for i, l := range lists {
		whole := l[:cap(l)]
		for k := range whole {
			whole[k] = -i - 1
		}
	}
	for i, l := range lists {
		whole := l[:cap(l)]
		for k := range whole {
			if whole[k] != -i-1 {
				t.Errorf("list %d is %v", i, whole)
			}
		}
	}
}
