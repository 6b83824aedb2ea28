package owner

import (
	"math"
	"math/rand"
	"slices"
	"testing"

	"hermitcrab/api"
)

// rows is a book told plainly: a row for each frame.
type rows []Row

func (m rows) has(frame int) bool {
	return frame >= 0 && frame < len(m)
}

func (m rows) donate(frame, n, page int) api.Errno {
	if !m.has(frame) || n < 0 || n > 5 || page < 0 || page > 31 {
		return api.ErrArg
	}
	if m[frame].Kind != 0 {
		return api.ErrUsed
	}
	m[frame] = Row{Kind: 3, VM: n, Page: page}
	return api.OK
}

func (m rows) keep(frame, n int) api.Errno {
	if !m.has(frame) || n > 5 {
		return api.ErrArg
	}
	if m[frame].Kind != 0 {
		return api.ErrUsed
	}
	m[frame] = Row{Kind: 2, VM: n}
	if n < 0 {
		m[frame] = Row{Kind: 1}
	}
	return api.OK
}

// guests: the error of a call that is for VM n's pages alone.
func (m rows) guests(frame, n int) api.Errno {
	if !m.has(frame) {
		return api.ErrArg
	}
	if m[frame].Kind != 3 || m[frame].VM != n {
		return api.ErrOwner
	}
	return api.OK
}

func (m rows) share(frame, n int) api.Errno {
	e := m.guests(frame, n)
	if e == api.OK {
		m[frame].Shares++
	}
	return e
}

func (m rows) unshare(frame, n int) api.Errno {
	e := m.guests(frame, n)
	if e == api.OK && m[frame].Shares == 0 {
		return api.ErrUsed
	}
	if e == api.OK {
		m[frame].Shares--
	}
	return e
}

func (m rows) reclaim(frame, n int) api.Errno {
	e := m.guests(frame, n)
	if e == api.OK && m[frame].Shares > 0 {
		return api.ErrUsed
	}
	if e == api.OK {
		m[frame] = Row{}
	}
	return e
}

func (m rows) release(frame int) api.Errno {
	if !m.has(frame) {
		return api.ErrArg
	}
	switch m[frame].Kind {
	case 0:
		return api.ErrUsed
	case 3:
		return api.ErrOwner
	}
	m[frame] = Row{}
	return api.OK
}

var (
	// Of a book of eight frames.
	noFrames = []int{-1, 8, -2, -8, 9, 16, 511, 512, 1 << 32, 1<<32 + 1, 1 << 60, math.MaxInt, math.MinInt}
	noVMs    = []int{6, 7, 8, 12, 255, 256, 1 << 32, 1<<32 + 1, math.MaxInt}
	belowVMs = []int{-1, -2, -6, -256, -1 << 32, math.MinInt}
	noPages  = []int{-1, 32, -2, -32, 33, 64, 256, 1 << 32, 1<<32 + 1, math.MaxInt, math.MinInt}
)

func wantErr(t *testing.T, what string, got, want api.Errno) {
	t.Helper()
	if got != want {
		t.Fatalf("%s: %d; want %d", what, got, want)
	}
}

// hold: is all that a book's calls tell as the rows are?
func hold(t *testing.T, b *Book, m rows) {
	t.Helper()
	if !slices.Equal(b.L, []Row(m)) {
		t.Fatalf("rows %v; want %v", b.L, m)
	}
	for frame, want := range m {
		if r, e := b.Get(frame); r != want || e != api.OK {
			t.Fatalf("Get(%d) = %v, %d; want %v", frame, r, e, want)
		}
	}
	for _, frame := range []int{-1, len(m), -2, len(m) + 1, math.MaxInt, math.MinInt} {
		if r, e := b.Get(frame); r != (Row{}) || e != api.ErrArg {
			t.Fatalf("Get(%d) = %v, %d; want ErrArg", frame, r, e)
		}
	}
	holdCounts(t, b, m)
}

func holdCounts(t *testing.T, b *Book, m rows) {
	t.Helper()
	var all [4]int
	var ofVM [4][6]int
	for _, r := range m {
		all[r.Kind]++
		ofVM[r.Kind][r.VM]++
	}
	for n := -1; n < 7; n++ {
		for _, kind := range []byte{0, 1, 2, 3, 4, 255} {
			want := 0
			switch {
			case kind < 2:
				want = all[kind]
			case kind < 4 && n >= 0 && n < 6:
				want = ofVM[kind][n]
			}
			if c := b.Count(kind, n); c != want {
				t.Fatalf("Count(%d, %d) = %d; want %d", kind, n, c, want)
			}
		}
	}
}

// laid: a book of eight frames with one row of each kind and more, and the rows.
func laid(t *testing.T) (*Book, rows) {
	t.Helper()
	b := New(8)
	for i, e := range []api.Errno{
		b.Keep(1, -1), b.Keep(2, 0), b.Keep(3, 5),
		b.Donate(4, 0, 0), b.Donate(5, 5, 31), b.Donate(6, 2, 7),
		b.Share(5, 5), b.Share(6, 2), b.Share(6, 2),
	} {
		if e != api.OK {
			t.Fatalf("call %d: %d", i, e)
		}
	}
	m := rows{
		{},
		{Kind: Hyp},
		{Kind: Table},
		{Kind: Table, VM: 5},
		{Kind: Guest},
		{Kind: Guest, VM: 5, Page: 31, Shares: 1},
		{Kind: Guest, VM: 2, Page: 7, Shares: 2},
		{},
	}
	hold(t, b, m)
	return b, m
}

func TestKinds(t *testing.T) {
	if Free != 0 || Hyp != 1 || Table != 2 || Guest != 3 {
		t.Error(Free, Hyp, Table, Guest)
	}
}

func TestExample(t *testing.T) {
	b := New(4)
	wantErr(t, "Donate(3, 0, 7)", b.Donate(3, 0, 7), api.OK)
	wantErr(t, "Share(3, 0)", b.Share(3, 0), api.OK)
	wantErr(t, "Reclaim(3, 0)", b.Reclaim(3, 0), api.ErrUsed)
	hold(t, b, rows{{}, {}, {}, {Kind: Guest, Page: 7, Shares: 1}})
}

func TestNew(t *testing.T) {
	for frames, want := range map[int]int{
		0: 0, 1: 1, 2: 2, 511: 511, 512: 512, 513: 512, 1000: 512, -1: 0, -512: 0, 1 << 40: 512, math.MaxInt: 512, math.MinInt: 0,
	} {
		b := New(frames)
		if b == nil {
			t.Fatalf("New(%d) is nil", frames)
		}
		m := make(rows, want)
		hold(t, b, m)
		wantErr(t, "Donate beyond the last", b.Donate(want, 0, 0), api.ErrArg)
		wantErr(t, "Keep beyond the last", b.Keep(want, -1), api.ErrArg)
		wantErr(t, "Keep ahead of the first", b.Keep(-1, 0), api.ErrArg)
		if want == 0 {
			continue
		}
		wantErr(t, "Donate of the last", b.Donate(want-1, 5, 31), m.donate(want-1, 5, 31))
		if want > 1 {
			wantErr(t, "Keep of the first", b.Keep(0, -1), m.keep(0, -1))
		}
		hold(t, b, m)
	}
}

// TestEveryVMAndPage: each is donated, and told so, in a frame of its own.
func TestEveryVMAndPage(t *testing.T) {
	b, m := New(512), make(rows, 512)
	frame := 0
	for n := range 6 {
		for page := range 32 {
			wantErr(t, "Donate", b.Donate(frame, n, page), api.OK)
			m[frame] = Row{Kind: Guest, VM: n, Page: page}
			frame++
		}
	}
	for n := range 6 {
		for range n + 1 {
			wantErr(t, "Keep", b.Keep(frame, n), api.OK)
			m[frame] = Row{Kind: Table, VM: n}
			frame++
		}
	}
	for _, n := range belowVMs {
		wantErr(t, "Keep", b.Keep(frame, n), api.OK)
		m[frame] = Row{Kind: Hyp}
		frame++
	}
	hold(t, b, m)
	if b.Count(Guest, 3) != 32 || b.Count(Table, 3) != 4 || b.Count(Hyp, 3) != 6 || b.Count(Hyp, -1) != 6 || b.Count(Free, 99) != 512-frame {
		t.Error("Count")
	}
}

// TestOnePageInManyFrames: a book doesn't say that a page is in one frame alone.
func TestOnePageInManyFrames(t *testing.T) {
	b, m := New(3), make(rows, 3)
	for frame := range 3 {
		wantErr(t, "Donate", b.Donate(frame, 1, 4), m.donate(frame, 1, 4))
	}
	hold(t, b, m)
}

func TestDonateAndKeepOfWrongOnes(t *testing.T) {
	b, m := laid(t)
	for _, frame := range noFrames {
		wantErr(t, "Donate: no such frame", b.Donate(frame, 0, 0), api.ErrArg)
		wantErr(t, "Donate: nothing is", b.Donate(frame, 6, 32), api.ErrArg)
		wantErr(t, "Keep: no such frame", b.Keep(frame, 0), api.ErrArg)
		wantErr(t, "Keep: no such frame", b.Keep(frame, -1), api.ErrArg)
		wantErr(t, "Keep: nothing is", b.Keep(frame, 6), api.ErrArg)
	}
	// ErrArg, whether the frame is Free or not: it is told first.
	for frame := range 8 {
		for _, n := range noVMs {
			wantErr(t, "Donate: no such VM", b.Donate(frame, n, 0), api.ErrArg)
			wantErr(t, "Keep: no such VM", b.Keep(frame, n), api.ErrArg)
		}
		for _, n := range belowVMs {
			wantErr(t, "Donate: a VM below 0", b.Donate(frame, n, 0), api.ErrArg)
		}
		for _, page := range noPages {
			wantErr(t, "Donate: no such page", b.Donate(frame, 0, page), api.ErrArg)
			wantErr(t, "Donate: no such VM and page", b.Donate(frame, 6, page), api.ErrArg)
		}
	}
	hold(t, b, m)
}

func TestDonateAndKeepOfUsedOnes(t *testing.T) {
	b, m := laid(t)
	for frame := 1; frame < 7; frame++ {
		for n := range 6 {
			for page := range 32 {
				wantErr(t, "Donate of one that isn't Free", b.Donate(frame, n, page), api.ErrUsed)
			}
			wantErr(t, "Keep of one that isn't Free", b.Keep(frame, n), api.ErrUsed)
		}
		for _, n := range belowVMs {
			wantErr(t, "Keep of one that isn't Free", b.Keep(frame, n), api.ErrUsed)
		}
	}
	hold(t, b, m)
}

// TestOfNoPageOfTheVM: Share, Unshare and Reclaim, with VMs that there are, and others.
func TestOfNoPageOfTheVM(t *testing.T) {
	b, m := laid(t)
	calls := map[string]func(frame, n int) api.Errno{"Share": b.Share, "Unshare": b.Unshare, "Reclaim": b.Reclaim}
	vms := slices.Concat([]int{0, 1, 2, 3, 4, 5}, noVMs, belowVMs)
	for name, call := range calls {
		for _, n := range vms {
			for _, frame := range noFrames {
				wantErr(t, name+": no such frame", call(frame, n), api.ErrArg)
			}
			for frame := range 8 {
				if m[frame].Kind != Guest || m[frame].VM != n {
					wantErr(t, name+": not that VM's page", call(frame, n), api.ErrOwner)
				}
			}
		}
	}
	hold(t, b, m)
}

// TestRowsOfNoVM: a row that is written by hand makes no VM of one that there isn't.
func TestRowsOfNoVM(t *testing.T) {
	for _, n := range []int{6, -1, math.MaxInt, math.MinInt} {
		want := []Row{{Kind: Guest, VM: n, Page: 3, Shares: 1}, {Kind: Guest, VM: n}}
		b := &Book{L: slices.Clone(want)}
		wantErr(t, "Share", b.Share(0, n), api.ErrOwner)
		wantErr(t, "Unshare", b.Unshare(0, n), api.ErrOwner)
		wantErr(t, "Reclaim", b.Reclaim(1, n), api.ErrOwner)
		if !slices.Equal(b.L, want) {
			t.Errorf("%v; want %v", b.L, want)
		}
	}
}

func TestShares(t *testing.T) {
	b := New(2)
	wantErr(t, "Donate", b.Donate(1, 4, 9), api.OK)
	for round := range 3 {
		wantErr(t, "Unshare of 0", b.Unshare(1, 4), api.ErrUsed)
		for i := range 20 * round {
			wantErr(t, "Share", b.Share(1, 4), api.OK)
			hold(t, b, rows{{}, {Kind: Guest, VM: 4, Page: 9, Shares: i + 1}})
			wantErr(t, "Reclaim of one that is shared", b.Reclaim(1, 4), api.ErrUsed)
			wantErr(t, "Donate of one that is shared", b.Donate(1, 4, 9), api.ErrUsed)
		}
		for i := range 20 * round {
			wantErr(t, "Reclaim of one that is shared", b.Reclaim(1, 4), api.ErrUsed)
			wantErr(t, "Unshare", b.Unshare(1, 4), api.OK)
			hold(t, b, rows{{}, {Kind: Guest, VM: 4, Page: 9, Shares: 20*round - i - 1}})
		}
		wantErr(t, "Unshare of 0", b.Unshare(1, 4), api.ErrUsed)
		hold(t, b, rows{{}, {Kind: Guest, VM: 4, Page: 9}})
	}
	wantErr(t, "Reclaim", b.Reclaim(1, 4), api.OK)
	hold(t, b, rows{{}, {}})
}

func TestReclaim(t *testing.T) {
	b, m := laid(t)
	wantErr(t, "Reclaim(4, 0)", b.Reclaim(4, 0), api.OK)
	m[4] = Row{}
	hold(t, b, m)
	wantErr(t, "Reclaim(4, 0) again", b.Reclaim(4, 0), api.ErrOwner)
	wantErr(t, "Reclaim(5, 5)", b.Reclaim(5, 5), api.ErrUsed)
	wantErr(t, "Unshare(5, 5)", b.Unshare(5, 5), api.OK)
	wantErr(t, "Reclaim(5, 5)", b.Reclaim(5, 5), api.OK)
	m[5] = Row{} // VM and page, too
	hold(t, b, m)
	wantErr(t, "Unshare(6, 2)", b.Unshare(6, 2), api.OK)
	wantErr(t, "Reclaim(6, 2)", b.Reclaim(6, 2), api.ErrUsed)
	m[6].Shares = 1
	hold(t, b, m)
	// Somebody else's then, or the hypervisor's.
	wantErr(t, "Donate(5, 1, 2)", b.Donate(5, 1, 2), api.OK)
	wantErr(t, "Keep(4, -1)", b.Keep(4, -1), api.OK)
	m[5], m[4] = Row{Kind: Guest, VM: 1, Page: 2}, Row{Kind: Hyp}
	hold(t, b, m)
}

func TestRelease(t *testing.T) {
	b, m := laid(t)
	for _, frame := range noFrames {
		wantErr(t, "Release: no such frame", b.Release(frame), api.ErrArg)
	}
	for _, frame := range []int{0, 7} {
		wantErr(t, "Release of a Free one", b.Release(frame), api.ErrUsed)
	}
	for _, frame := range []int{4, 5, 6} {
		wantErr(t, "Release of a guest's", b.Release(frame), api.ErrOwner)
	}
	hold(t, b, m)
	for _, frame := range []int{3, 1, 2} {
		wantErr(t, "Release", b.Release(frame), api.OK)
		m[frame] = Row{}
		hold(t, b, m)
		wantErr(t, "Release again", b.Release(frame), api.ErrUsed)
		hold(t, b, m)
	}
	wantErr(t, "Donate(3, 3, 3)", b.Donate(3, 3, 3), api.OK)
	m[3] = Row{Kind: Guest, VM: 3, Page: 3}
	hold(t, b, m)
}

func TestNil(t *testing.T) {
	var b *Book
	for _, n := range []int{0, 1, -1, 5, 6, 512, math.MaxInt, math.MinInt} {
		if r, e := b.Get(n); r != (Row{}) || e != api.ErrArg {
			t.Errorf("Get(%d) = %v, %d", n, r, e)
		}
		wantErr(t, "Donate", b.Donate(n, 0, 0), api.ErrArg)
		wantErr(t, "Donate", b.Donate(0, n, 0), api.ErrArg)
		wantErr(t, "Donate", b.Donate(0, 0, n), api.ErrArg)
		wantErr(t, "Keep", b.Keep(n, 0), api.ErrArg)
		wantErr(t, "Keep", b.Keep(0, n), api.ErrArg)
		wantErr(t, "Share", b.Share(n, 0), api.ErrArg)
		wantErr(t, "Share", b.Share(0, n), api.ErrArg)
		wantErr(t, "Unshare", b.Unshare(n, 0), api.ErrArg)
		wantErr(t, "Unshare", b.Unshare(0, n), api.ErrArg)
		wantErr(t, "Reclaim", b.Reclaim(n, 0), api.ErrArg)
		wantErr(t, "Reclaim", b.Reclaim(0, n), api.ErrArg)
		wantErr(t, "Release", b.Release(n), api.ErrArg)
		for kind := range 256 {
			if c := b.Count(byte(kind), n); c != 0 {
				t.Errorf("Count(%d, %d) = %d", kind, n, c)
			}
		}
	}
	if b.Twin() != nil {
		t.Error("Twin")
	}
}

func TestBooksWithoutFrames(t *testing.T) {
	for name, b := range map[string]*Book{"zero": {}, "no rows": {L: []Row{}}, "New(0)": New(0), "New(-1)": New(-1), "a twin": New(0).Twin(), "zero's twin": (&Book{}).Twin()} {
		for _, n := range []int{0, 1, -1, 6, 512, math.MaxInt, math.MinInt} {
			wantErr(t, name+": Donate", b.Donate(n, 0, 0), api.ErrArg)
			wantErr(t, name+": Keep", b.Keep(n, -1), api.ErrArg)
			wantErr(t, name+": Keep", b.Keep(0, n), api.ErrArg)
			wantErr(t, name+": Share", b.Share(n, 0), api.ErrArg)
			wantErr(t, name+": Unshare", b.Unshare(n, 0), api.ErrArg)
			wantErr(t, name+": Reclaim", b.Reclaim(n, 0), api.ErrArg)
			wantErr(t, name+": Release", b.Release(n), api.ErrArg)
		}
		hold(t, b, nil)
		if twin := b.Twin(); twin == nil || twin == b || len(twin.L) != 0 {
			t.Errorf("%s: Twin: %v", name, twin)
		}
	}
}

func TestCountOfAnyNumbers(t *testing.T) {
	b, _ := laid(t)
	for _, n := range slices.Concat(noVMs, belowVMs) {
		if b.Count(Free, n) != 2 || b.Count(Hyp, n) != 1 || b.Count(Table, n) != 0 || b.Count(Guest, n) != 0 {
			t.Errorf("of %d: %d %d %d %d", n, b.Count(Free, n), b.Count(Hyp, n), b.Count(Table, n), b.Count(Guest, n))
		}
	}
	for kind := 4; kind < 256; kind++ {
		for n := -1; n < 7; n++ {
			if c := b.Count(byte(kind), n); c != 0 {
				t.Errorf("Count(%d, %d) = %d", kind, n, c)
			}
		}
	}
}

func TestTwin(t *testing.T) {
	b, m := laid(t)
	twin, n := b.Twin(), slices.Clone(m)
	if twin == nil || twin == b {
		t.Fatal("the twin is no other one")
	}
	hold(t, twin, n)
	// The book goes on, the twin stays; then the other way round.
	wantErr(t, "Donate", b.Donate(0, 1, 1), m.donate(0, 1, 1))
	wantErr(t, "Release", b.Release(1), m.release(1))
	wantErr(t, "Share", b.Share(4, 0), m.share(4, 0))
	hold(t, b, m)
	hold(t, twin, n)
	wantErr(t, "Keep", twin.Keep(0, 3), n.keep(0, 3))
	wantErr(t, "Unshare", twin.Unshare(6, 2), n.unshare(6, 2))
	wantErr(t, "Reclaim", twin.Reclaim(4, 0), n.reclaim(4, 0))
	hold(t, b, m)
	hold(t, twin, n)
	// What is appended to one's rows is none of the other's.
	twin.L = append(twin.L, Row{Kind: Hyp})
	b.L = append(b.L, Row{Kind: Table, VM: 1})
	hold(t, twin, append(n, Row{Kind: Hyp}))
	hold(t, b, append(m, Row{Kind: Table, VM: 1}))
}

// step: one call of both, with numbers on both sides of every edge.
func step(t *testing.T, r *rand.Rand, b *Book, m rows) {
	t.Helper()
	frame := r.Intn(len(m)+4) - 2
	n, page := r.Intn(9)-2, r.Intn(35)-2
	if r.Intn(2) == 0 && m.has(frame) {
		n = m[frame].VM // whose it is, so that calls go well
	}
	switch r.Intn(8) {
	case 0, 1:
		wantErr(t, "Donate", b.Donate(frame, n, page), m.donate(frame, n, page))
	case 2:
		wantErr(t, "Keep", b.Keep(frame, n), m.keep(frame, n))
	case 3, 4:
		wantErr(t, "Share", b.Share(frame, n), m.share(frame, n))
	case 5:
		wantErr(t, "Unshare", b.Unshare(frame, n), m.unshare(frame, n))
	case 6:
		wantErr(t, "Reclaim", b.Reclaim(frame, n), m.reclaim(frame, n))
	case 7:
		wantErr(t, "Release", b.Release(frame), m.release(frame))
	}
}

// TestManySteps holds books, and twins of them, against rows.
func TestManySteps(t *testing.T) {
	r := rand.New(rand.NewSource(1))
	for _, frames := range []int{1, 2, 3, 8, 40} {
		b, m := New(frames), make(rows, frames)
		for range 5000 {
			step(t, r, b, m)
			hold(t, b, m)
			if r.Intn(10) > 0 {
				continue
			}
			// Either one goes on; the other one is changed and left.
			twin, n := b.Twin(), slices.Clone(m)
			if r.Intn(2) == 0 {
				b, twin = twin, b
			}
			for range 5 {
				step(t, r, twin, n)
			}
			hold(t, twin, n)
			hold(t, b, m)
		}
	}
}
