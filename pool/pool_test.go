package pool

import (
	"math"
	"math/rand"
	"slices"
	"testing"

	"hermitcrab/api"
)

// truths is a pool told plainly: which frames are used, and how many Takes go well still (below 0: all).
type truths struct {
	used []bool
	well int
}

func (m *truths) take() (int, api.Errno) {
	n := slices.Index(m.used, false)
	if n < 0 || m.well == 0 {
		return 0, api.ErrFull
	}
	if m.well > 0 {
		m.well--
	}
	m.used[n] = true
	return n, api.OK
}

func (m *truths) give(n int) api.Errno {
	switch {
	case n < 0 || n >= len(m.used):
		return api.ErrArg
	case !m.used[n]:
		return api.ErrUsed
	}
	m.used[n] = false
	return api.OK
}

func (m *truths) some(n int) ([]int, api.Errno) {
	before := slices.Clone(m.used)
	var taken []int
	for len(taken) < n {
		frame, e := m.take()
		if e != api.OK {
			m.used = before
			return nil, e
		}
		taken = append(taken, frame)
	}
	return taken, api.OK
}

func (m *truths) twin() *truths {
	return &truths{used: slices.Clone(m.used), well: m.well}
}

func (m *truths) free() []int {
	var all []int
	for n, used := range m.used {
		if !used {
			all = append(all, n)
		}
	}
	return all
}

// takeAll: what Takes answer till one isn't OK.
func takeAll(t *testing.T, p *Pool) []int {
	t.Helper()
	var all []int
	for {
		n, e := p.Take()
		if e != api.OK {
			if n != 0 || e != api.ErrFull {
				t.Fatalf("the last Take: %d, %d; want 0, ErrFull", n, e)
			}
			return all
		}
		if all = append(all, n); len(all) > 512 {
			t.Fatal("Takes without end")
		}
	}
}

// hold: is all that a pool's calls tell, now and later on, as the truths are?
func hold(t *testing.T, p *Pool, m *truths) {
	t.Helper()
	free := m.free()
	if left := p.Left(); left != len(free) {
		t.Fatalf("Left() = %d; want %d", left, len(free))
	}
	for n := -2; n < len(m.used)+2; n++ {
		want := n >= 0 && n < len(m.used) && m.used[n]
		if used := p.Used(n); used != want {
			t.Fatalf("Used(%d) = %v; want %v", n, used, want)
		}
	}
	well := free
	if m.well >= 0 {
		well = free[:min(m.well, len(free))]
	}
	if got := takeAll(t, p.Twin()); !slices.Equal(got, well) {
		t.Fatalf("Takes from now on: %v; want %v (%d go well)", got, well, m.well)
	}
	twin := p.Twin()
	twin.Fail(-1)
	if got := takeAll(t, twin); !slices.Equal(got, free) {
		t.Fatalf("the frames that are free: %v; want %v", got, free)
	}
}

// laid: a pool of so many frames, of which these are used, and no Take fails.
func laid(t *testing.T, frames int, used ...int) (*Pool, *truths) {
	t.Helper()
	p, m := New(frames), &truths{used: make([]bool, frames), well: -1}
	if l, e := p.Some(frames); len(l) != frames || e != api.OK {
		t.Fatalf("Some(%d) = %v, %d", frames, l, e)
	}
	for n := range frames {
		m.used[n] = slices.Contains(used, n)
		if m.used[n] {
			continue
		}
		if e := p.Give(n); e != api.OK {
			t.Fatalf("Give(%d): %d", n, e)
		}
	}
	hold(t, p, m)
	return p, m
}

func wantTake(t *testing.T, p *Pool, want int, err api.Errno) {
	t.Helper()
	if n, e := p.Take(); n != want || e != err {
		t.Fatalf("Take() = %d, %d; want %d, %d", n, e, want, err)
	}
}

func wantGive(t *testing.T, p *Pool, n int, err api.Errno) {
	t.Helper()
	if e := p.Give(n); e != err {
		t.Fatalf("Give(%d): %d; want %d", n, e, err)
	}
}

func wantSome(t *testing.T, p *Pool, n int, want []int, err api.Errno) {
	t.Helper()
	if l, e := p.Some(n); !slices.Equal(l, want) || e != err {
		t.Fatalf("Some(%d) = %v, %d; want %v, %d", n, l, e, want, err)
	}
}

var noFrames = []int{-1, -2, -512, 5, 6, 511, 512, 513, 1 << 32, math.MaxInt, math.MinInt}

func TestExample(t *testing.T) {
	p := New(3)
	wantTake(t, p, 0, api.OK)
	wantTake(t, p, 1, api.OK)
	wantGive(t, p, 0, api.OK)
	wantTake(t, p, 0, api.OK)
}

func TestNew(t *testing.T) {
	for frames, want := range map[int]int{
		0: 0, 1: 1, 2: 2, 3: 3, 511: 511, 512: 512, 513: 512, 1000: 512, -1: 0, -512: 0, math.MaxInt: 512, math.MinInt: 0,
	} {
		p := New(frames)
		if p == nil {
			t.Fatalf("New(%d) is nil", frames)
		}
		hold(t, p, &truths{used: make([]bool, want), well: -1})
		if e := p.Give(want); e != api.ErrArg {
			t.Errorf("New(%d): Give(%d): %d; want ErrArg", frames, want, e)
		}
		if want == 0 {
			continue
		}
		if e := p.Give(want - 1); e != api.ErrUsed {
			t.Errorf("New(%d): Give(%d): %d; want ErrUsed", frames, want-1, e)
		}
	}
}

func TestTakesToTheLastAndOneMore(t *testing.T) {
	for _, frames := range []int{1, 2, 7, 512} {
		p, m := New(frames), &truths{used: make([]bool, frames), well: -1}
		for n := range frames {
			wantTake(t, p, n, api.OK)
			if p.Left() != frames-n-1 || !p.Used(n) || p.Used(n+1) {
				t.Fatalf("of %d frames, behind Take %d: Left() = %d", frames, n, p.Left())
			}
			m.used[n] = true
		}
		for range 3 {
			wantTake(t, p, 0, api.ErrFull)
			wantSome(t, p, 1, nil, api.ErrFull)
			hold(t, p, m)
		}
		wantGive(t, p, frames-1, api.OK)
		wantTake(t, p, frames-1, api.OK)
		wantTake(t, p, 0, api.ErrFull)
	}
}

// TestGivenInAnyOrder: whatever the order in which frames are given, the least comes first.
func TestGivenInAnyOrder(t *testing.T) {
	const frames = 6
	var try func(order []int)
	try = func(order []int) {
		if len(order) < frames {
			for n := range frames {
				if !slices.Contains(order, n) {
					try(append(slices.Clone(order), n))
				}
			}
			return
		}
		p := New(frames)
		wantSome(t, p, frames, []int{0, 1, 2, 3, 4, 5}, api.OK)
		for i, n := range order {
			wantGive(t, p, n, api.OK)
			if p.Left() != i+1 || p.Used(n) {
				t.Fatalf("%v: Give(%d): Left() = %d, Used %v", order, n, p.Left(), p.Used(n))
			}
			least := slices.Min(order[:i+1])
			wantTake(t, p, least, api.OK)
			wantGive(t, p, least, api.OK)
		}
		if got := takeAll(t, p); !slices.Equal(got, []int{0, 1, 2, 3, 4, 5}) {
			t.Fatalf("%v: %v", order, got)
		}
	}
	try(nil)
}

func TestGiveOfWrongFrames(t *testing.T) {
	for _, well := range []int{-1, 0, 2} {
		p, m := laid(t, 5, 0, 2, 4)
		p.Fail(well)
		m.well = well
		for _, n := range noFrames {
			wantGive(t, p, n, api.ErrArg)
			if p.Used(n) {
				t.Errorf("Used(%d)", n)
			}
		}
		for range 2 {
			wantGive(t, p, 1, api.ErrUsed)
			wantGive(t, p, 3, api.ErrUsed)
		}
		hold(t, p, m)
		wantGive(t, p, 4, api.OK)
		wantGive(t, p, 4, api.ErrUsed)
		m.used[4] = false
		hold(t, p, m)
	}
}

func TestSome(t *testing.T) {
	for _, c := range []struct {
		n    int
		want []int
		err  api.Errno
	}{
		{0, nil, api.OK}, {-1, nil, api.OK}, {math.MinInt, nil, api.OK},
		{1, []int{1}, api.OK}, {2, []int{1, 3}, api.OK}, {4, []int{1, 3, 4, 7}, api.OK}, {5, []int{1, 3, 4, 7, 8}, api.OK},
		{6, nil, api.ErrFull}, {7, nil, api.ErrFull}, {513, nil, api.ErrFull}, {1 << 40, nil, api.ErrFull}, {math.MaxInt, nil, api.ErrFull},
	} {
		p, m := laid(t, 9, 0, 2, 5, 6)
		wantSome(t, p, c.n, c.want, c.err)
		for _, n := range c.want {
			m.used[n] = true
		}
		hold(t, p, m)
	}
	p := New(512)
	l, e := p.Some(512)
	if len(l) != 512 || e != api.OK || l[0] != 0 || l[511] != 511 || p.Left() != 0 {
		t.Errorf("Some(512): %d frames, %d", len(l), e)
	}
	wantSome(t, p, 0, nil, api.OK)
	wantSome(t, p, 1, nil, api.ErrFull)
	wantSome(t, New(512), 513, nil, api.ErrFull)
}

func TestFail(t *testing.T) {
	p, m := laid(t, 4)
	p.Fail(0)
	m.well = 0
	for range 3 {
		wantTake(t, p, 0, api.ErrFull)
		wantSome(t, p, 1, nil, api.ErrFull)
		hold(t, p, m)
	}
	wantSome(t, p, 0, nil, api.OK)
	wantSome(t, p, -1, nil, api.OK)
	hold(t, p, m)

	p.Fail(2)
	wantTake(t, p, 0, api.OK)
	wantTake(t, p, 1, api.OK)
	wantTake(t, p, 0, api.ErrFull)
	wantTake(t, p, 0, api.ErrFull)
	wantGive(t, p, 0, api.OK)
	wantTake(t, p, 0, api.ErrFull)
	hold(t, p, &truths{used: []bool{false, true, false, false}})

	p.Fail(1)
	p.Fail(3) // the last that was told holds, from then on
	wantSome(t, p, 3, []int{0, 2, 3}, api.OK)
	hold(t, p, &truths{used: []bool{true, true, true, true}})
	wantGive(t, p, 2, api.OK)
	wantTake(t, p, 0, api.ErrFull)

	for _, after := range []int{-1, -2, -512, math.MinInt} {
		p.Fail(0)
		p.Fail(after)
		for range 10 {
			wantTake(t, p, 2, api.OK)
			wantGive(t, p, 2, api.OK)
		}
		hold(t, p, &truths{used: []bool{true, true, false, true}, well: -1})
	}
	p.Fail(math.MaxInt)
	wantTake(t, p, 2, api.OK)
	wantTake(t, p, 0, api.ErrFull)
}

// TestFailOfSome: the Takes of a Some that goes wrong count for Fail, as far as they went well.
func TestFailOfSome(t *testing.T) {
	for _, c := range []struct {
		after, n int
		want     []int
		err      api.Errno
		behind   int // how many Takes go well from then on
	}{
		{3, 3, []int{1, 2, 4}, api.OK, 0}, // just enough
		{2, 3, nil, api.ErrFull, 0},       // one less
		{1, 3, nil, api.ErrFull, 0},
		{0, 3, nil, api.ErrFull, 0},
		{4, 3, []int{1, 2, 4}, api.OK, 1},
		{4, 4, []int{1, 2, 4, 5}, api.OK, 0},
		{3, 4, nil, api.ErrFull, 0},
		{4, 5, nil, api.ErrFull, 0},
		{5, 5, nil, api.ErrFull, 1}, // the fifth Take finds none: it doesn't count
		{9, 5, nil, api.ErrFull, 5},
		{7, math.MaxInt, nil, api.ErrFull, 3},
		{-1, 5, nil, api.ErrFull, -1},
		{1, 1, []int{1}, api.OK, 0},
		{1, 0, nil, api.OK, 1},
		{1, -3, nil, api.OK, 1},
	} {
		p, m := laid(t, 6, 0, 3)
		p.Fail(c.after)
		wantSome(t, p, c.n, c.want, c.err)
		for _, n := range c.want {
			m.used[n] = true
		}
		m.well = c.behind
		hold(t, p, m)
	}
}

// TestTakesThatFindNoneDontCount: so many Takes go well, and one that finds no free frame doesn't.
func TestTakesThatFindNoneDontCount(t *testing.T) {
	p, _ := laid(t, 2, 0, 1)
	p.Fail(1)
	for range 3 {
		wantTake(t, p, 0, api.ErrFull)
		wantSome(t, p, 2, nil, api.ErrFull)
	}
	wantGive(t, p, 1, api.OK)
	wantGive(t, p, 0, api.OK)
	wantTake(t, p, 0, api.OK)
	wantTake(t, p, 0, api.ErrFull)
}

func TestNil(t *testing.T) {
	var p *Pool
	for _, n := range []int{0, 1, -1, 512, math.MaxInt, math.MinInt} {
		p.Fail(n)
		wantTake(t, p, 0, api.ErrNone)
		wantGive(t, p, n, api.ErrNone)
		wantSome(t, p, n, nil, api.ErrNone)
		if p.Left() != 0 || p.Used(n) || p.Twin() != nil {
			t.Errorf("%d: %d, %v, %v", n, p.Left(), p.Used(n), p.Twin())
		}
	}
}

func TestPoolsWithoutFrames(t *testing.T) {
	for name, p := range map[string]*Pool{"zero": {}, "New(0)": New(0), "New(-1)": New(-1), "a twin": New(0).Twin(), "zero's twin": (&Pool{}).Twin()} {
		for _, after := range []int{0, 1, -1} {
			for _, n := range []int{0, 1, -1, 512, math.MaxInt, math.MinInt} {
				wantTake(t, p, 0, api.ErrFull)
				wantGive(t, p, n, api.ErrArg)
				if n < 1 {
					wantSome(t, p, n, nil, api.OK)
				} else {
					wantSome(t, p, n, nil, api.ErrFull)
				}
				if p.Left() != 0 || p.Used(n) {
					t.Errorf("%s: %d, %v", name, p.Left(), p.Used(n))
				}
			}
			if twin := p.Twin(); twin == nil || twin == p || twin.Left() != 0 {
				t.Errorf("%s: Twin: %v", name, twin)
			}
			p.Fail(after)
		}
	}
}

func TestMemory(t *testing.T) {
	p := New(6)
	l, _ := p.Some(3)
	_ = append(l, 9, 9, 9)
	l[0], l[1], l[2] = 5, 5, 5
	m := &truths{used: []bool{true, true, true, false, false, false}, well: -1}
	hold(t, p, m)
	again, _ := p.Some(2)
	if !slices.Equal(l, []int{5, 5, 5}) || !slices.Equal(again, []int{3, 4}) {
		t.Errorf("%v, %v", l, again)
	}
	wantGive(t, p, 0, api.OK)
	wantSome(t, p, 3, nil, api.ErrFull)
	if !slices.Equal(again, []int{3, 4}) {
		t.Errorf("what was answered has changed: %v", again)
	}
}

func TestTwin(t *testing.T) {
	for _, frames := range []int{1, 6, 512} {
		for _, well := range []int{-1, 0, 1, 3} {
			p, m := laid(t, frames, 0, 2, 3, 511)
			p.Fail(well)
			m.well = well
			twin, n := p.Twin(), m.twin()
			if twin == nil || twin == p {
				t.Fatal("the twin is no other one")
			}
			hold(t, twin, n)
			// The pool goes on, the twin stays; then the other way round.
			p.Give(0)
			m.give(0)
			p.Take()
			m.take()
			p.Some(2)
			m.some(2)
			p.Fail(5)
			m.well = 5
			hold(t, p, m)
			hold(t, twin, n)
			twin.Fail(-1)
			n.well = -1
			twin.Give(0)
			n.give(0)
			twin.Some(frames)
			n.some(frames)
			twin.Some(1)
			n.some(1)
			hold(t, p, m)
			hold(t, twin, n)
		}
	}
}

// TestManySteps holds pools, and twins of them, against truths, with frames and numbers on both sides of every edge.
func TestManySteps(t *testing.T) {
	r := rand.New(rand.NewSource(1))
	for _, frames := range []int{1, 2, 3, 8, 17, 40} {
		p, m := New(frames), &truths{used: make([]bool, frames), well: -1}
		for range 3000 {
			n := r.Intn(frames+4) - 2
			switch r.Intn(9) {
			case 0, 1, 2:
				want, err := m.take()
				wantTake(t, p, want, err)
			case 3, 4, 5:
				wantGive(t, p, n, m.give(n))
			case 6:
				n /= 1 + r.Intn(4)
				want, err := m.some(n)
				wantSome(t, p, n, want, err)
			case 7:
				// Seldom, so that pools fill up.
				if n = r.Intn(4*frames) - 3*frames; n < 0 {
					n = -1
				}
				p.Fail(n)
				m.well = n
			case 8:
				// Either one goes on; the other one is changed and left.
				other, twin := p, p.Twin()
				if r.Intn(2) == 0 {
					other, twin = twin, other
				}
				other.Fail(-1)
				other.Take()
				other.Give(r.Intn(frames))
				other.Some(n)
				p = twin
			}
			hold(t, p, m)
		}
	}
}
