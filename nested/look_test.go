package nested_test

import (
	"fmt"
	"math"
	"slices"
	"testing"

	"innkeeper/api"
	"innkeeper/frames"
	"innkeeper/nested"
)

const (
	size   = 64  // bytes of a frame
	first  = 16  // the first frame that is not the monitor's
	owners = 4   // guests
	most   = 64  // pages of one guest
	all    = 240 // frames that are not the monitor's
)

// look is what the document says that a table tells: a model, and what a table is held against.
type look struct {
	pages   int
	frames  map[int]int
	guarded map[int]bool
}

// empty is the look of a new table.
func empty(pages int) look {
	return look{pages: pages, frames: map[int]int{}, guarded: map[int]bool{}}
}

// mapping is l with a page that is mapped to a frame; l is turned.
func (l look) mapping(page, frame int) look {
	l.frames[page] = frame
	return l
}

// guarding is l with pages that are guarded; l is turned.
func (l look) guarding(pages ...int) look {
	for _, page := range pages {
		l.guarded[page] = true
	}
	return l
}

// without is l with pages that are not mapped; l is turned.
func (l look) without(pages ...int) look {
	for _, page := range pages {
		delete(l.frames, page)
		delete(l.guarded, page)
	}
	return l
}

func (l look) mapped() []int {
	var list []int
	for page := range l.pages {
		if _, ok := l.frames[page]; ok {
			list = append(list, page)
		}
	}
	return list
}

func (l look) held() []int {
	var list []int
	for _, f := range l.frames {
		list = append(list, f)
	}
	slices.Sort(list)
	return list
}

func noOwners() []int {
	return []int{math.MinInt, math.MinInt32, -2, -1, owners, owners + 1, first, math.MaxInt32, math.MaxInt}
}

func noSizes() []int {
	return []int{math.MinInt, math.MinInt32, -most, -2, -1, 0, most + 1, most + 2, all, math.MaxInt32, math.MaxInt}
}

// noPages is numbers that no page of a table of so many has.
func noPages(pages int) []int {
	return []int{math.MinInt, math.MinInt32, -pages, -2, -1, pages, pages + 1, 2 * pages, most, math.MaxInt32, math.MaxInt}
}

// checkLook asks the table all that it can be asked without a change.
func checkLook(t *testing.T, what string, x *nested.Table, want look) {
	t.Helper()
	if got := x.Pages(); got != want.pages {
		t.Errorf("%s: Pages is %d, not %d", what, got, want.pages)
	}
	if got := x.Mapped(); !slices.Equal(got, want.mapped()) {
		t.Errorf("%s: Mapped is %v, not %v", what, got, want.mapped())
	}
	for page := range want.pages {
		f, mapped := want.frames[page]
		if got, ok := x.Frame(page); got != f || ok != mapped {
			t.Errorf("%s: Frame(%d) is %d %v, not %d %v", what, page, got, ok, f, mapped)
		}
		if got := x.Guarded(page); got != want.guarded[page] {
			t.Errorf("%s: Guarded(%d) is %v", what, page, got)
		}
	}
	for _, page := range noPages(want.pages) {
		if got, ok := x.Frame(page); got != 0 || ok {
			t.Errorf("%s: Frame(%d) is %d %v", what, page, got, ok)
		}
		if x.Guarded(page) {
			t.Errorf("%s: Guarded(%d) is true", what, page)
		}
	}
}

// checkBoth asks the table, and the pool for the table's frames.
func checkBoth(t *testing.T, what string, p *frames.Pool, owner int, x *nested.Table, want look) {
	t.Helper()
	checkLook(t, what, x, want)
	checkHeld(t, what, p, owner, want.held()...)
	if got := p.Promised(owner); got != want.pages {
		t.Errorf("%s: Promised(%d) is %d, not %d", what, owner, got, want.pages)
	}
	for page, f := range want.frames {
		if o, ok := p.Owner(f); o != owner || !ok {
			t.Errorf("%s: frame %d of page %d is of %d %v, not of %d", what, f, page, o, ok, owner)
		}
	}
}

func checkHeld(t *testing.T, what string, p *frames.Pool, owner int, want ...int) {
	t.Helper()
	if got := p.Held(owner); !slices.Equal(got, want) {
		t.Errorf("%s: Held(%d) is %v, not %v", what, owner, got, want)
	}
}

// checkNew makes a table on p.
func checkNew(t *testing.T, p *frames.Pool, owner, pages int) *nested.Table {
	t.Helper()
	x, errno := nested.New(p, owner, pages)
	if x == nil || errno != api.OK {
		t.Fatalf("New(%d, %d) is %v, %d", owner, pages, x, errno)
	}
	return x
}

func checkNoNew(t *testing.T, p *frames.Pool, owner, pages int, want api.Errno) {
	t.Helper()
	if x, errno := nested.New(p, owner, pages); x != nil || errno != want {
		t.Errorf("New(%d, %d) is %v, %d, not error %d", owner, pages, x, errno, want)
	}
}

func checkMap(t *testing.T, x *nested.Table, page, want int) {
	t.Helper()
	if f, errno := x.Map(page); f != want || errno != api.OK {
		t.Errorf("Map(%d) is %d, %d, not %d", page, f, errno, want)
	}
}

// checkNoMap asks more than once, as an error may leave no trace.
func checkNoMap(t *testing.T, x *nested.Table, page int, want api.Errno) {
	t.Helper()
	for range 3 {
		if f, errno := x.Map(page); f != 0 || errno != want {
			t.Errorf("Map(%d) is %d, %d, not error %d", page, f, errno, want)
		}
	}
}

func checkUnmap(t *testing.T, x *nested.Table, page int, want api.Errno) {
	t.Helper()
	if got := x.Unmap(page); got != want {
		t.Errorf("Unmap(%d) is %d, not %d", page, got, want)
	}
}

func checkGuard(t *testing.T, x *nested.Table, page int, want bool) {
	t.Helper()
	if got := x.Guard(page); got != want {
		t.Errorf("Guard(%d) is %v", page, got)
	}
}

func checkUnguard(t *testing.T, x *nested.Table, page int, want bool) {
	t.Helper()
	if got := x.Unguard(page); got != want {
		t.Errorf("Unguard(%d) is %v", page, got)
	}
}

func checkTake(t *testing.T, p *frames.Pool, owner int, list ...int) {
	t.Helper()
	for _, f := range list {
		if got, errno := p.Take(owner); got != f || errno != api.OK {
			t.Errorf("Take(%d) is %d, %d, not %d", owner, got, errno, f)
		}
	}
}

// checkUntouched: nothing is held and nothing is promised in the pool.
func checkUntouched(t *testing.T, p *frames.Pool) {
	t.Helper()
	for o := range owners {
		checkHeld(t, "untouched", p, o)
		if got := p.Promised(o); got != 0 {
			t.Errorf("Promised(%d) is %d", o, got)
		}
		if errno := p.Promise(o, 60); errno != api.OK {
			t.Errorf("Promise(%d, 60) is %d", o, errno)
		}
	}
}

// some is a table of seven pages of owner 2, with 0, 3, 5 and 6 mapped and 3 and 6 guarded, on a pool in which owner 1 holds the frames 16 and 18.
func some(t *testing.T) (*frames.Pool, *nested.Table, look) {
	t.Helper()
	p := frames.New()
	p.Promise(1, 2)
	x := checkNew(t, p, 2, 7)
	checkTake(t, p, 1, 16)
	checkMap(t, x, 5, 17)
	checkTake(t, p, 1, 18)
	for i, page := range []int{3, 0, 6} {
		checkMap(t, x, page, 19+i)
	}
	checkGuard(t, x, 3, true)
	checkGuard(t, x, 6, true)
	want := empty(7).mapping(5, 17).mapping(3, 19).mapping(0, 20).mapping(6, 21).guarding(3, 6)
	checkBoth(t, "some", p, 2, x, want)
	return p, x, want
}

// The tests name the document's numbers by themselves, so that a wrong constant is seen.
func TestNumbers(t *testing.T) {
	got := fmt.Sprint(api.PageSize, api.Kept, api.Frames, api.MaxGuests, api.MaxPages)
	if got != "64 16 256 4 64" {
		t.Error(got)
	}
}
