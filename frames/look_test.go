package frames_test

import (
	"fmt"
	"math"
	"slices"
	"testing"

	"innkeeper/api"
	"innkeeper/frames"
)

const (
	size   = 64  // bytes of a frame
	first  = 16  // the first frame that is not the monitor's
	count  = 256 // frames
	owners = 4
	most   = 64  // frames that may be promised to one owner
	all    = 240 // frames that are not the monitor's
	nobody = -1
)

// look is what the document says that a pool tells: a model, and what a pool is held against.
type look struct {
	holder   [count]int
	bytes    [count][size]byte
	promised [owners]int
}

// none is the look of a new pool.
func none() look {
	var l look
	for f := range l.holder {
		l.holder[f] = nobody
	}
	return l
}

// promising is l with a promise of n frames.
func (l look) promising(owner, n int) look {
	l.promised[owner] = n
	return l
}

// holding is l with frames that owner holds, cleared.
func (l look) holding(owner int, list ...int) look {
	for _, f := range list {
		l.holder[f] = owner
		l.bytes[f] = [size]byte{}
	}
	return l
}

// without is l with frames that nobody holds.
func (l look) without(list ...int) look {
	return l.holding(nobody, list...)
}

// with is l with a byte in a frame.
func (l look) with(f, at int, b byte) look {
	l.bytes[f][at] = b
	return l
}

func (l look) held(owner int) []int {
	var list []int
	for f, o := range l.holder {
		if o == owner {
			list = append(list, f)
		}
	}
	return list
}

func (l look) free() int {
	return len(l.held(nobody)) - first
}

func noOwners() []int {
	return []int{math.MinInt, math.MinInt32, -2, nobody, owners, owners + 1, first, count, math.MaxInt32, math.MaxInt}
}

func noFrames() []int {
	return []int{math.MinInt, math.MinInt32, -count, -first, -2, -1, count, count + 1, 2 * count, math.MaxInt32, math.MaxInt}
}

func noBytes() []int {
	return []int{math.MinInt, math.MinInt32, -size, -2, -1, size, size + 1, 2 * size, math.MaxInt32, math.MaxInt}
}

// checkLook asks the pool all that it can be asked without a change.
func checkLook(t *testing.T, what string, p *frames.Pool, want look) {
	t.Helper()
	for f := range count {
		checkFrame(t, what, p, f, want)
	}
	for o := range owners {
		if got := p.Held(o); !slices.Equal(got, want.held(o)) {
			t.Errorf("%s: Held(%d) is %v, not %v", what, o, got, want.held(o))
		}
		if got := p.Promised(o); got != want.promised[o] {
			t.Errorf("%s: Promised(%d) is %d, not %d", what, o, got, want.promised[o])
		}
	}
	if got := p.Free(); got != want.free() {
		t.Errorf("%s: Free is %d, not %d", what, got, want.free())
	}
	checkNothing(t, what, p)
}

func checkFrame(t *testing.T, what string, p *frames.Pool, f int, want look) {
	t.Helper()
	o, held := want.holder[f], true
	if o == nobody {
		o, held = 0, false
	}
	if got, ok := p.Owner(f); got != o || ok != held {
		t.Errorf("%s: Owner(%d) is %d %v, not %d %v", what, f, got, ok, o, held)
	}
	for at := range size {
		if got, ok := p.Byte(f, at); got != want.bytes[f][at] || ok != held {
			t.Fatalf("%s: Byte(%d, %d) is %d %v, not %d %v", what, f, at, got, ok, want.bytes[f][at], held)
		}
	}
	for _, at := range noBytes() {
		if got, ok := p.Byte(f, at); got != 0 || ok {
			t.Errorf("%s: Byte(%d, %d) is %d %v", what, f, at, got, ok)
		}
	}
}

// checkNothing asks for what no pool has.
func checkNothing(t *testing.T, what string, p *frames.Pool) {
	t.Helper()
	for _, o := range noOwners() {
		if got := p.Held(o); len(got) != 0 {
			t.Errorf("%s: Held(%d) is %v", what, o, got)
		}
		if got := p.Promised(o); got != 0 {
			t.Errorf("%s: Promised(%d) is %d", what, o, got)
		}
	}
	for _, f := range noFrames() {
		if got, ok := p.Owner(f); got != 0 || ok {
			t.Errorf("%s: Owner(%d) is %d %v", what, f, got, ok)
		}
		for _, at := range append(noBytes(), 0, size-1) {
			if got, ok := p.Byte(f, at); got != 0 || ok {
				t.Errorf("%s: Byte(%d, %d) is %d %v", what, f, at, got, ok)
			}
		}
	}
}

func checkPromise(t *testing.T, p *frames.Pool, owner, n int, want api.Errno) {
	t.Helper()
	if got := p.Promise(owner, n); got != want {
		t.Errorf("Promise(%d, %d) is %d, not %d", owner, n, got, want)
	}
}

// checkTake takes the frames of list, one by one.
func checkTake(t *testing.T, p *frames.Pool, owner int, list ...int) {
	t.Helper()
	for _, f := range list {
		if got, errno := p.Take(owner); got != f || errno != api.OK {
			t.Errorf("Take(%d) is %d, %d, not %d", owner, got, errno, f)
		}
	}
}

// checkNoTake asks more than once, as an error may leave no trace.
func checkNoTake(t *testing.T, p *frames.Pool, owner int, want api.Errno) {
	t.Helper()
	for range 3 {
		if got, errno := p.Take(owner); got != 0 || errno != want {
			t.Errorf("Take(%d) is %d, %d, not error %d", owner, got, errno, want)
		}
	}
}

func checkGive(t *testing.T, p *frames.Pool, want api.Errno, owner int, list ...int) {
	t.Helper()
	if got := p.Give(owner, list...); got != want {
		t.Errorf("Give(%d, %v) is %d, not %d", owner, list, got, want)
	}
}

func checkDrop(t *testing.T, p *frames.Pool, owner, want int) {
	t.Helper()
	if got := p.Drop(owner); got != want {
		t.Errorf("Drop(%d) is %d, not %d", owner, got, want)
	}
}

func checkPut(t *testing.T, p *frames.Pool, f, at int, b byte, want bool) {
	t.Helper()
	if got := p.Put(f, at, b); got != want {
		t.Errorf("Put(%d, %d, %d) is %v, not %v", f, at, b, got, want)
	}
}

// promising is a pool with promises to the owners, in order.
func promising(t *testing.T, promises ...int) *frames.Pool {
	t.Helper()
	p := frames.New()
	for o, n := range promises {
		checkPromise(t, p, o, n, api.OK)
	}
	return p
}

// marked is a pool of three owners with promises of 9, 8 and 7 frames: 0 holds 16, 19 and 22, 1 holds 17, 20 and 21, 2 holds 18, and their bytes differ from frame to frame and within each.
func marked(t *testing.T) (*frames.Pool, look) {
	t.Helper()
	p := promising(t, 9, 8, 7)
	for i, o := range []int{0, 1, 2, 0, 1, 1, 0} {
		checkTake(t, p, o, first+i)
	}
	l := none().promising(0, 9).promising(1, 8).promising(2, 7).holding(0, 16, 19, 22).holding(1, 17, 20, 21).holding(2, 18)
	for f := first; f < first+7; f++ {
		for at := range size {
			b := byte(f*31 + at + 1)
			checkPut(t, p, f, at, b, true)
			l = l.with(f, at, b)
		}
	}
	checkLook(t, "marked", p, l)
	return p, l
}

// fromTo is the numbers from a to b, without b.
func fromTo(a, b int) []int {
	var list []int
	for n := a; n < b; n++ {
		list = append(list, n)
	}
	return list
}

// The tests name the document's numbers by themselves, so that a wrong constant is seen.
func TestNumbers(t *testing.T) {
	got := fmt.Sprint(api.PageSize, api.Kept, api.Frames, api.MaxGuests, api.MaxPages)
	if got != "64 16 256 4 64" {
		t.Error(got)
	}
}
