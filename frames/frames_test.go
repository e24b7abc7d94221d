package frames_test

import (
	"math"
	"math/rand"
	"slices"
	"testing"

	"innkeeper/api"
	"innkeeper/frames"
)

// P5.1: in a new pool nobody holds a frame, and nobody has a promise.
func TestNew(t *testing.T) {
	p := frames.New()
	if p == nil {
		t.Fatal("no pool")
	}
	checkLook(t, "new", p, none())
	if p.Free() != all {
		t.Errorf("Free is %d, not %d", p.Free(), all)
	}
	for o := range owners {
		checkNoTake(t, p, o, api.ErrFull)
		checkGive(t, p, api.OK, o)
		checkDrop(t, p, o, 0)
	}
	checkLook(t, "new, asked", p, none())
}

// P5.1: each owner may be promised from 0 to MaxPages frames, and no more.
func TestPromise(t *testing.T) {
	for o := range owners {
		for _, n := range []int{0, 1, 2, most - 1, most} {
			p := frames.New()
			checkPromise(t, p, o, n, api.OK)
			checkLook(t, "promised", p, none().promising(o, n))
		}
		for _, n := range []int{math.MinInt, math.MinInt32, -2, -1, most + 1, most + 2, all, count, math.MaxInt32, math.MaxInt} {
			p := frames.New()
			checkPromise(t, p, o, n, api.ErrArg)
			checkLook(t, "no promise", p, none())
			checkPromise(t, p, o, most, api.OK)
		}
	}
}

// P5.1: who is no owner gets no promise, of whatever.
func TestPromiseNoOwner(t *testing.T) {
	p := frames.New()
	for _, o := range noOwners() {
		for _, n := range []int{math.MinInt, -1, 0, 1, most, most + 1, math.MaxInt} {
			checkPromise(t, p, o, n, api.ErrArg)
		}
	}
	checkLook(t, "no owner", p, none())
}

// P5.1: a second promise is refused, behind one of 0 frames as behind any, and the first one stays.
func TestPromiseTwice(t *testing.T) {
	for o := range owners {
		for _, n := range []int{0, 1, 5, most} {
			p := frames.New()
			checkPromise(t, p, o, n, api.OK)
			for _, again := range []int{0, 1, n, most} {
				checkPromise(t, p, o, again, api.ErrTaken)
			}
			checkLook(t, "twice", p, none().promising(o, n))
			checkTake(t, p, o, fromTo(first, first+n)...)
			checkNoTake(t, p, o, api.ErrFull)
			checkPromise(t, p, o, most, api.ErrTaken)
			checkGive(t, p, api.OK, o, fromTo(first, first+n)...)
			checkPromise(t, p, o, most, api.ErrTaken)
			checkLook(t, "given back", p, none().promising(o, n))
		}
	}
}

// P5.1: all promises together come to Frames - Kept at most, whoever is the last one.
func TestPromiseSum(t *testing.T) {
	for last := range owners {
		p, want := frames.New(), none()
		for o := range owners {
			if o != last {
				checkPromise(t, p, o, most, api.OK)
				want = want.promising(o, most)
			}
		}
		for _, n := range []int{49, 50, most} {
			checkPromise(t, p, last, n, api.ErrFull)
			checkLook(t, "too much", p, want)
			checkNoTake(t, p, last, api.ErrFull)
		}
		checkPromise(t, p, last, 48, api.OK)
		checkLook(t, "just enough", p, want.promising(last, 48))
		checkPromise(t, p, last, 0, api.ErrTaken)
	}
	p := promising(t, 60, 60, 60)
	checkPromise(t, p, 3, 61, api.ErrFull)
	checkPromise(t, p, 3, 60, api.OK)
	p = promising(t, most, most, most)
	checkPromise(t, p, 3, 47, api.OK)
	p = promising(t, most, 63, 50)
	checkPromise(t, p, 3, most, api.ErrFull)
	checkPromise(t, p, 3, 63, api.OK)
}

// P5.1: the sum is of what is promised, held or not, and of no promise that was dropped.
func TestPromiseSumOfPromises(t *testing.T) {
	p := promising(t, most, most, most)
	checkTake(t, p, 0, fromTo(first, first+most)...)
	checkPromise(t, p, 3, 49, api.ErrFull)
	checkGive(t, p, api.OK, 0, fromTo(first, first+most)...)
	checkPromise(t, p, 3, 49, api.ErrFull)
	checkDrop(t, p, 1, 0)
	checkPromise(t, p, 3, most, api.OK)
	checkPromise(t, p, 1, 49, api.ErrFull)
	checkPromise(t, p, 1, 48, api.OK)
	checkLook(t, "dropped", p, none().promising(0, most).promising(1, 48).promising(2, most).promising(3, most))
}

// P5.1: of several errors Promise tells ErrArg first, then ErrTaken, then ErrFull.
func TestPromiseOrder(t *testing.T) {
	p := promising(t, most, most, most)
	for _, n := range []int{-1, most + 1, math.MaxInt} {
		checkPromise(t, p, 0, n, api.ErrArg)
		checkPromise(t, p, 3, n, api.ErrArg)
	}
	checkPromise(t, p, owners, most, api.ErrArg)
	for _, n := range []int{0, 49, most} {
		checkPromise(t, p, 2, n, api.ErrTaken)
	}
	checkPromise(t, p, 3, most, api.ErrFull)
	checkLook(t, "errors", p, none().promising(0, most).promising(1, most).promising(2, most))
}

// P5.1: without a promise, or with one of 0 frames, there is no frame; nor is there one for what is no owner.
func TestTakeNone(t *testing.T) {
	for o := range owners {
		p := frames.New()
		checkNoTake(t, p, o, api.ErrFull)
		checkPromise(t, p, o, 0, api.OK)
		checkNoTake(t, p, o, api.ErrFull)
		checkPromise(t, p, (o+1)%owners, 3, api.OK)
		checkNoTake(t, p, o, api.ErrFull)
		checkLook(t, "none", p, none().promising((o+1)%owners, 3))
	}
	p, want := marked(t)
	for _, o := range noOwners() {
		checkNoTake(t, p, o, api.ErrArg)
	}
	checkNoTake(t, p, 3, api.ErrFull)
	checkLook(t, "no owner", p, want)
}

// P5.1: Take goes up from Kept to the last frame that was promised, and then tells ErrFull.
func TestTake(t *testing.T) {
	for o := range owners {
		for _, n := range []int{1, 2, 7, most - 1, most} {
			p := frames.New()
			checkPromise(t, p, o, n, api.OK)
			want := none().promising(o, n)
			for f := first; f < first+n; f++ {
				checkTake(t, p, o, f)
				want = want.holding(o, f)
			}
			checkLook(t, "all taken", p, want)
			checkNoTake(t, p, o, api.ErrFull)
			checkLook(t, "once more", p, want)
		}
	}
}

// P5.1: the whole host, taken in turns, up to its last frame.
func TestTakeAll(t *testing.T) {
	p, want := promising(t, 60, 60, 60, 60), none()
	for o := range owners {
		want = want.promising(o, 60)
	}
	for f := first; f < count; f++ {
		checkTake(t, p, f%owners, f)
		want = want.holding(f%owners, f)
		if got := p.Free(); got != count-1-f {
			t.Errorf("Free is %d, not %d", got, count-1-f)
		}
	}
	checkLook(t, "the whole host", p, want)
	for o := range owners {
		checkNoTake(t, p, o, api.ErrFull)
	}
	for _, f := range []int{count - 1, first, 100} {
		checkGive(t, p, api.OK, f%owners, f)
		for o := range owners {
			if o != f%owners {
				checkNoTake(t, p, o, api.ErrFull)
			}
		}
		checkTake(t, p, f%owners, f)
	}
	checkLook(t, "the whole host, again", p, want)
}

// P5.1: of the frames that were given back, by whomever and in whatever order, the lowest comes first.
func TestTakeLowest(t *testing.T) {
	p, want := marked(t)
	checkGive(t, p, api.OK, 1, 21)
	checkGive(t, p, api.OK, 0, 19)
	checkGive(t, p, api.OK, 1, 17)
	checkGive(t, p, api.OK, 0, 22)
	want = want.without(17, 19, 21, 22)
	checkLook(t, "given back", p, want)
	checkTake(t, p, 2, 17, 19)
	checkTake(t, p, 0, 21)
	checkTake(t, p, 2, 22, 23)
	checkTake(t, p, 1, 24)
	checkLook(t, "taken again", p, want.holding(2, 17, 19, 22, 23).holding(0, 21).holding(1, 24))
	checkDrop(t, p, 0, 2)
	checkTake(t, p, 1, 16, 21, 25)
}

// P5.1: at the limit, a frame given back is one that may be taken again, and no more.
func TestTakeAtTheLimit(t *testing.T) {
	p := promising(t, 3, 2)
	checkTake(t, p, 0, 16, 17, 18)
	checkTake(t, p, 1, 19)
	checkNoTake(t, p, 0, api.ErrFull)
	checkGive(t, p, api.OK, 0, 17)
	checkTake(t, p, 1, 17)
	checkTake(t, p, 0, 20)
	checkNoTake(t, p, 0, api.ErrFull)
	checkNoTake(t, p, 1, api.ErrFull)
	checkGive(t, p, api.OK, 0, 20, 16)
	checkTake(t, p, 0, 16, 20)
	checkNoTake(t, p, 0, api.ErrFull)
	checkLook(t, "at the limit", p, none().promising(0, 3).promising(1, 2).holding(0, 16, 18, 20).holding(1, 17, 19))
}

// P5.1, W5: a frame that is taken has all its bytes at 0, whoever held it and however it was taken back; the other frames keep theirs.
func TestTakeClears(t *testing.T) {
	for _, next := range []int{0, 1, 2} {
		p, want := marked(t)
		checkGive(t, p, api.OK, 1, 20)
		checkTake(t, p, next, 20)
		want = want.holding(next, 20)
		checkLook(t, "given back", p, want)
		checkDrop(t, p, 2, len(want.held(2)))
		want = want.without(want.held(2)...).promising(2, 0)
		checkLook(t, "dropped", p, want)
		checkTake(t, p, 1, 18)
		want = want.holding(1, 18)
		checkLook(t, "dropped and taken", p, want)
	}
	p := promising(t, 1)
	for range 3 {
		checkTake(t, p, 0, first)
		checkLook(t, "over and over", p, none().promising(0, 1).holding(0, first))
		for at := range size {
			checkPut(t, p, first, at, 0xff, true)
		}
		checkGive(t, p, api.OK, 0, first)
	}
}

// P5.1: Give of no frame, of one, and of several in any order; the promise stays.
func TestGive(t *testing.T) {
	for _, list := range [][]int{nil, {}, {17}, {20}, {21}, {17, 20}, {20, 17}, {21, 17}, {17, 20, 21}, {21, 20, 17}, {20, 21, 17}, {20, 17, 21}} {
		p, want := marked(t)
		checkGive(t, p, api.OK, 1, list...)
		want = want.without(list...)
		checkLook(t, "given", p, want)
		checkGive(t, p, api.OK, 1)
		for _, f := range list {
			checkGive(t, p, api.ErrOwner, 1, f)
		}
		checkLook(t, "given, and again", p, want)
	}
	p := promising(t, most)
	checkTake(t, p, 0, fromTo(first, first+most)...)
	list := fromTo(first, first+most)
	slices.Reverse(list)
	checkGive(t, p, api.OK, 0, list...)
	checkLook(t, "all of them", p, none().promising(0, most))
	checkTake(t, p, 0, fromTo(first, first+most)...)
	checkGive(t, p, api.OK, 0, p.Held(0)...)
	checkLook(t, "what Held tells", p, none().promising(0, most))
}

// P5.1: Give of any owner's frames, with the others' left to them.
func TestGiveEachOwner(t *testing.T) {
	for o := range owners {
		p, want := promising(t, 2, 2, 2, 2), none().promising(0, 2).promising(1, 2).promising(2, 2).promising(3, 2)
		for f := range 2 * owners {
			checkTake(t, p, f%owners, first+f)
			want = want.holding(f%owners, first+f)
		}
		for other := range owners {
			if other != o {
				checkGive(t, p, api.ErrOwner, other, first+o)
				checkGive(t, p, api.ErrOwner, other, first+other, first+o)
			}
		}
		checkLook(t, "another's", p, want)
		checkGive(t, p, api.OK, o, first+o)
		checkLook(t, "its own", p, want.without(first+o))
	}
}

// P5.1: one frame that is not held by the owner, wherever it stands, keeps all of them where they are.
func TestGiveNotHeld(t *testing.T) {
	p, want := marked(t)
	wrong := append(noFrames(), 16, 18, 19, 22, 23, 24, 100, count-1) // another's and nobody's
	wrong = append(wrong, fromTo(0, first)...)                        // the monitor's
	for _, f := range wrong {
		for _, list := range [][]int{{f}, {f, 17}, {17, f}, {17, f, 20}, {21, 20, 17, f}, {f, 21, 20, 17}, {f, f}} {
			checkGive(t, p, api.ErrOwner, 1, list...)
			checkGive(t, p, api.ErrOwner, 3, list...)
		}
	}
	checkLook(t, "not held", p, want)
	checkGive(t, p, api.OK, 1, 17, 20, 21)
	checkGive(t, p, api.ErrOwner, 1, 17)
	checkLook(t, "held", p, want.without(17, 20, 21))
}

// P5.1: a frame that occurs twice keeps all of them where they are.
func TestGiveTwice(t *testing.T) {
	p, want := marked(t)
	for _, list := range [][]int{{17, 17}, {21, 21}, {17, 20, 17}, {17, 17, 20}, {20, 17, 17}, {17, 20, 21, 20}, {21, 20, 17, 21}, {17, 20, 21, 17, 20, 21}} {
		checkGive(t, p, api.ErrOwner, 1, list...)
	}
	if got := p.Give(1, slices.Repeat([]int{17, 20}, 500000)...); got != api.ErrOwner {
		t.Errorf("Give of a long list is %d", got)
	}
	checkLook(t, "twice", p, want)
	checkGive(t, p, api.OK, 1, 17, 20, 21)
	checkLook(t, "once", p, want.without(17, 20, 21))
}

// P5.1: what is no owner gives nothing back, and that is told first.
func TestGiveNoOwner(t *testing.T) {
	p, want := marked(t)
	for _, o := range noOwners() {
		for _, list := range [][]int{nil, {17}, {0}, {23}, {-1}, {count}, {17, 17}} {
			checkGive(t, p, api.ErrArg, o, list...)
		}
	}
	checkLook(t, "no owner", p, want)
	checkGive(t, p, api.OK, 3)
	checkGive(t, p, api.ErrOwner, 3, 23)
}

// P5.1: Drop takes back all frames and the promise of one owner, and of nobody else.
func TestDrop(t *testing.T) {
	for o, n := range []int{3, 3, 1, 0} {
		p, want := marked(t)
		checkDrop(t, p, o, n)
		want = want.without(want.held(o)...).promising(o, 0)
		checkLook(t, "dropped", p, want)
		checkNoTake(t, p, o, api.ErrFull)
		for range 2 {
			checkDrop(t, p, o, 0)
			checkLook(t, "dropped again", p, want)
		}
		checkPromise(t, p, o, 2, api.OK)
		want = want.promising(o, 2)
		checkLook(t, "promised again", p, want)
		for range 2 {
			f, errno := p.Take(o)
			if errno != api.OK || f < first || f >= count {
				t.Fatalf("Take(%d) is %d, %d", o, f, errno)
			}
			want = want.holding(o, f)
		}
		checkNoTake(t, p, o, api.ErrFull)
		checkLook(t, "taken again", p, want)
		checkDrop(t, p, o, 2)
	}
}

// P5.1: Drop of what is no owner is 0, and of an owner that holds nothing too, which loses its promise.
func TestDropNothing(t *testing.T) {
	p, want := marked(t)
	for _, o := range noOwners() {
		checkDrop(t, p, o, 0)
	}
	checkLook(t, "no owner", p, want)
	for _, n := range []int{0, 1, 12} {
		checkPromise(t, p, 3, n, api.OK)
		checkPromise(t, p, 3, n, api.ErrTaken)
		checkDrop(t, p, 3, 0)
		checkLook(t, "nothing held", p, want)
		checkNoTake(t, p, 3, api.ErrFull)
	}
	p = promising(t, most)
	checkTake(t, p, 0, fromTo(first, first+most)...)
	checkDrop(t, p, 0, most)
	checkLook(t, "all held", p, none())
}

// The chapter's examples.
func TestExamples(t *testing.T) {
	p := frames.New()
	checkPromise(t, p, 1, 2, api.OK)
	checkTake(t, p, 1, 16, 17)
	checkNoTake(t, p, 1, api.ErrFull)
	checkPromise(t, p, 0, 65, api.ErrArg)
	checkGive(t, p, api.ErrOwner, 0, 16)
}

// R2: what was handed to Give is the caller's, before and behind.
func TestGiveKeepsNothing(t *testing.T) {
	p, want := marked(t)
	row := []int{21, 17, 20, 17, 20, 99}
	for _, c := range []struct {
		list  []int
		errno api.Errno
	}{{row[:4], api.ErrOwner}, {row[:2], api.OK}} {
		checkGive(t, p, c.errno, 1, c.list...)
		if !slices.Equal(row, []int{21, 17, 20, 17, 20, 99}) {
			t.Fatalf("the row is %v", row)
		}
	}
	want = want.without(21, 17)
	checkLook(t, "given", p, want)
	for i := range row {
		row[i] = 20
	}
	checkLook(t, "the row turned", p, want)
	checkTake(t, p, 1, 17, 21)
}

// R4: no pool knows of another one.
func TestTwoPools(t *testing.T) {
	p, want := marked(t)
	o := promising(t, most, most, most, 48)
	checkTake(t, o, 3, first)
	checkPut(t, o, first, 0, 99, true)
	checkDrop(t, o, 0, 0)
	checkDrop(t, o, 1, 0)
	checkLook(t, "one", p, want)
	checkLook(t, "the other", o, none().promising(2, most).promising(3, 48).holding(3, first).with(first, 0, 99))
	checkPromise(t, p, 3, 49, api.OK)
}

// P5.1, P5.2: any calls, in any order, against what the chapter says of them.
func TestAnyCalls(t *testing.T) {
	r := rand.New(rand.NewSource(5))
	for range 20 {
		p, want, made := frames.New(), none(), [owners]bool{}
		for range 300 {
			o := r.Intn(owners)
			switch k := r.Intn(20); {
			case k < 3:
				playPromise(t, p, &want, &made, o, r.Intn(most+1))
			case k < 13:
				playTake(t, p, &want, o)
			case k < 16:
				playGive(t, p, &want, o, r)
			case k < 19:
				f, at, b := r.Intn(count/4), r.Intn(size), byte(r.Intn(256))
				held := want.holder[f] != nobody
				checkPut(t, p, f, at, b, held)
				if held {
					want = want.with(f, at, b)
				}
			default:
				checkDrop(t, p, o, len(want.held(o)))
				want = want.without(want.held(o)...).promising(o, 0)
				made[o] = false
			}
		}
		checkLook(t, "any calls", p, want)
		if t.Failed() {
			return
		}
	}
}

func playPromise(t *testing.T, p *frames.Pool, want *look, made *[owners]bool, o, n int) {
	t.Helper()
	sum := n
	for _, x := range want.promised {
		sum += x
	}
	switch {
	case made[o]:
		checkPromise(t, p, o, n, api.ErrTaken)
	case sum > all:
		checkPromise(t, p, o, n, api.ErrFull)
	default:
		checkPromise(t, p, o, n, api.OK)
		made[o] = true
		*want = want.promising(o, n)
	}
}

func playTake(t *testing.T, p *frames.Pool, want *look, o int) {
	t.Helper()
	if len(want.held(o)) == want.promised[o] {
		checkNoTake(t, p, o, api.ErrFull)
		return
	}
	f := first + slices.Index(want.holder[first:], nobody)
	checkTake(t, p, o, f)
	*want = want.holding(o, f)
}

// playGive gives some of the owner's frames back, every third time with one that may be another's or occur twice.
func playGive(t *testing.T, p *frames.Pool, want *look, o int, r *rand.Rand) {
	t.Helper()
	list := want.held(o)
	r.Shuffle(len(list), func(i, j int) { list[i], list[j] = list[j], list[i] })
	list = list[:min(len(list), r.Intn(4))]
	if r.Intn(3) == 0 {
		f := r.Intn(count/4) - 2
		wrong := f < 0 || want.holder[f] != o || slices.Contains(list, f)
		list = append(list, f)
		if wrong {
			checkGive(t, p, api.ErrOwner, o, list...)
			return
		}
	}
	checkGive(t, p, api.OK, o, list...)
	*want = want.without(list...)
}
