package frames_test

import (
	"slices"
	"testing"

	"innkeeper/api"
	"innkeeper/frames"
)

// P5.2: Owner of the monitor's frames, of held ones and of those beyond them; Held, Promised and Free with them.
func TestQueries(t *testing.T) {
	p, _ := marked(t)
	for f, o := range []int{0, 1, 2, 0, 1, 1, 0} {
		if got, ok := p.Owner(first + f); got != o || !ok {
			t.Errorf("Owner(%d) is %d %v, not %d", first+f, got, ok, o)
		}
	}
	for _, f := range append(noFrames(), 0, first-1, first+7, count-1) {
		if got, ok := p.Owner(f); got != 0 || ok {
			t.Errorf("Owner(%d) is %d %v", f, got, ok)
		}
	}
	for o, want := range [][]int{{16, 19, 22}, {17, 20, 21}, {18}, {}} {
		if got := p.Held(o); !slices.Equal(got, want) {
			t.Errorf("Held(%d) is %v, not %v", o, got, want)
		}
	}
	for o, want := range []int{9, 8, 7, 0} {
		if got := p.Promised(o); got != want {
			t.Errorf("Promised(%d) is %d, not %d", o, got, want)
		}
	}
	if got := p.Free(); got != all-7 {
		t.Errorf("Free is %d, not %d", got, all-7)
	}
}

// P5.2: Held goes up by the frames' numbers, whenever they were taken.
func TestHeldAscends(t *testing.T) {
	p, _ := marked(t)
	checkDrop(t, p, 0, 3)
	checkTake(t, p, 1, 16, 19, 22, 23)
	if got, want := p.Held(1), []int{16, 17, 19, 20, 21, 22, 23}; !slices.Equal(got, want) {
		t.Errorf("Held(1) is %v, not %v", got, want)
	}
}

// P5.2: Promised is what was promised, however much of it is held.
func TestPromisedStays(t *testing.T) {
	p := promising(t, 3)
	for n := range 3 {
		checkTake(t, p, 0, first+n)
		if got := p.Promised(0); got != 3 {
			t.Errorf("Promised is %d with %d frames held", got, n+1)
		}
	}
	checkGive(t, p, api.OK, 0, 16, 17)
	if got := p.Promised(0); got != 3 {
		t.Errorf("Promised is %d behind Give", got)
	}
}

// P5.2: Free is of what is held, not of what is promised.
func TestFree(t *testing.T) {
	p := promising(t, most, most, most, 48)
	checkFree := func(want int) {
		t.Helper()
		if got := p.Free(); got != want {
			t.Errorf("Free is %d, not %d", got, want)
		}
	}
	checkFree(all)
	checkTake(t, p, 0, 16, 17, 18)
	checkTake(t, p, 3, 19)
	checkFree(all - 4)
	checkGive(t, p, api.ErrOwner, 0, 16, 19)
	checkFree(all - 4)
	checkGive(t, p, api.OK, 0, 16, 18)
	checkFree(all - 2)
	checkDrop(t, p, 0, 1)
	checkFree(all - 1)
	checkDrop(t, p, 3, 1)
	checkFree(all)
}

// P5.2: Put sets one byte of a held frame, the first, the last or any, and Byte tells it.
func TestPut(t *testing.T) {
	p, want := marked(t)
	for _, f := range []int{16, 17, 18, 22} {
		for _, at := range []int{0, 1, 31, 32, size - 2, size - 1} {
			for _, b := range []byte{0, 1, 127, 128, 255} {
				checkPut(t, p, f, at, b, true)
				want = want.with(f, at, b)
				checkLook(t, "put", p, want)
			}
		}
	}
	p = promising(t, 60, 60, 60, 60)
	want = none().promising(0, 60).promising(1, 60).promising(2, 60).promising(3, 60)
	for f := first; f < count; f++ {
		checkTake(t, p, f%owners, f)
		want = want.holding(f%owners, f)
		checkPut(t, p, f, f%size, byte(f), true)
		want = want.with(f, f%size, byte(f))
	}
	checkLook(t, "put everywhere", p, want)
}

// P5.2: Put of no byte of a held frame changes nothing.
func TestPutNoByte(t *testing.T) {
	p, want := marked(t)
	for f := first; f < first+7; f++ {
		for _, at := range noBytes() {
			checkPut(t, p, f, at, 99, false)
		}
	}
	checkLook(t, "no byte", p, want)
}

// P5.2: frames that nobody holds have no bytes: the monitor's, those never taken, those given back, and what is no frame.
func TestPutNotHeld(t *testing.T) {
	p, want := marked(t)
	checkGive(t, p, api.OK, 1, 17)
	checkDrop(t, p, 2, 1)
	want = want.without(17, 18).promising(2, 0)
	list := append(noFrames(), 17, 18, 23, 24, count-1)
	for _, f := range append(list, fromTo(0, first)...) {
		for _, at := range append(noBytes(), 0, 1, size-1) {
			checkPut(t, p, f, at, 99, false)
			if got, ok := p.Byte(f, at); got != 0 || ok {
				t.Errorf("Byte(%d, %d) is %d %v", f, at, got, ok)
			}
		}
	}
	checkLook(t, "not held", p, want)
	checkTake(t, p, 0, 17, 18, 23)
	checkLook(t, "taken then", p, want.holding(0, 17, 18, 23))
	checkPut(t, frames.New(), first, 0, 1, false)
}

// R2: what Held told is the caller's: turned or lengthened, it changes neither the pool nor what Held told besides.
func TestHeldIsNew(t *testing.T) {
	p, want := marked(t)
	one, two := p.Held(1), p.Held(1)
	one = append(one[:2], 98, 99)
	for i := range one {
		one[i] = 18
	}
	whole := one[:cap(one)]
	for i := range whole {
		whole[i] = 18
	}
	if !slices.Equal(two, []int{17, 20, 21}) {
		t.Errorf("the other list is %v", two)
	}
	checkLook(t, "the list turned", p, want)
	checkTake(t, p, 1, 23)
	if !slices.Equal(two, []int{17, 20, 21}) {
		t.Errorf("the list follows the pool: %v", two)
	}
	checkGive(t, p, api.OK, 1, 17, 20, 21, 23)
	if !slices.Equal(two, []int{17, 20, 21}) {
		t.Errorf("the list follows the pool: %v", two)
	}
}

// R2: two lists of Held share no memory, not even behind their ends.
func TestHeldSharesNothing(t *testing.T) {
	p, _ := marked(t)
	lists := [][]int{p.Held(0), p.Held(1), p.Held(2), p.Held(3), p.Held(1)}
	for i, l := range lists {
		whole := l[:cap(l)]
		for k := range whole {
			whole[k] = -i - 1
		}
	}
	for i, l := range lists {
		whole := l[:cap(l)]
		for k := range whole {
			if whole[k] != -i-1 {
				t.Errorf("list %d is %v", i, whole)
			}
		}
	}
}
