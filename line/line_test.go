package line

import (
	"math"
	"math/rand"
	"testing"

	"hermitcrab/api"
)

var noLines = []int{-1, 8, -2, -8, 9, 16, 31, 32, 63, 64, 255, 256, 1 << 32, 1<<32 + 1, math.MaxInt, math.MinInt}

// full: a seat in which no field is nought, so that a change of any is seen.
func full() api.Seat {
	s := api.Seat{PC: 101, Base: 102, Vec: 103, EPC: 104, Cause: 105, Addr: 106}
	for i := range s.R {
		s.R[i] = uint64(1000 + i)
	}
	return s
}

// set is lines told plainly: of each, is it there?
type set [8]bool

func setOf(w uint32) set {
	var l set
	for n := range l {
		l[n] = w/(1<<n)%2 == 1
	}
	return l
}

func (l set) word() uint32 {
	var w uint32
	for n, there := range l {
		if there {
			w += 1 << n
		}
	}
	return w
}

// least: the least line of both sets.
func least(a, b set) (int, bool) {
	for n := range a {
		if a[n] && b[n] {
			return n, true
		}
	}
	return 0, false
}

// woken, raised, next and taken tell plainly what a seat is behind a call, and what the call answers.
func woken(s api.Seat) api.Seat {
	if _, ok := least(setOf(s.Pend), setOf(s.Mask)); ok && s.State == 1 {
		s.State = 0
	}
	return s
}

func raised(s api.Seat, n int) (api.Seat, api.Errno) {
	if n < 0 || n > 7 {
		return s, api.ErrArg
	}
	if s.State == 2 {
		return s, api.ErrState
	}
	l := setOf(s.Pend)
	l[n] = true
	s.Pend = l.word()
	return woken(s), api.OK
}

func next(s api.Seat) (int, bool) {
	if !s.Open {
		return 0, false
	}
	return least(setOf(s.Pend), setOf(s.Mask))
}

func taken(s api.Seat) (api.Seat, int, bool) {
	n, ok := next(s)
	if ok {
		l := setOf(s.Pend)
		l[n] = false
		s.Pend = l.word()
	}
	return s, n, ok
}

func holdRaise(t *testing.T, s api.Seat, n int) {
	t.Helper()
	want, wantErr := raised(s, n)
	got := s
	if e := Raise(&got, n); e != wantErr || got != want {
		t.Fatalf("Raise(%+v, %d) = %d, %+v; want %d, %+v", s, n, e, got, wantErr, want)
	}
}

func holdOthers(t *testing.T, s api.Seat) {
	t.Helper()
	got := s
	if Wake(&got); got != woken(s) {
		t.Fatalf("Wake(%+v): %+v", s, got)
	}
	got = s
	wantN, wantOK := next(s)
	if n, ok := Next(&got); n != wantN || ok != wantOK || got != s {
		t.Fatalf("Next(%+v) = %d, %v, %+v; want %d, %v", s, n, ok, got, wantN, wantOK)
	}
	got = s
	want, wantN, wantOK := taken(s)
	if n, ok := Take(&got); n != wantN || ok != wantOK || got != want {
		t.Fatalf("Take(%+v) = %d, %v, %+v; want %d, %v, %+v", s, n, ok, got, wantN, wantOK, want)
	}
}

func TestRight(t *testing.T) {
	for n := range 8 {
		if !Right(n) {
			t.Errorf("Right(%d) is false", n)
		}
	}
	for _, n := range noLines {
		if Right(n) {
			t.Errorf("Right(%d) is true", n)
		}
	}
}

// Every Pend and every Mask, in each state, open or not: none is left out.
func TestEverySeat(t *testing.T) {
	s := full()
	for pend := range uint32(256) {
		for mask := range uint32(256) {
			for state := range api.Dead + 1 {
				s.Pend, s.Mask, s.State = pend, mask, state
				for _, s.Open = range []bool{false, true} {
					holdOthers(t, s)
				}
				holdRaise(t, s, int(pend+mask)%8)
			}
		}
	}
}

func TestRaiseEachLine(t *testing.T) {
	s := full()
	for n := range 8 {
		for _, s.Pend = range []uint32{0, 1 << n, 255 - 1<<n, 255, 0x55, 0xaa} {
			for _, s.Mask = range []uint32{0, 1 << n, 255 - 1<<n, 255} {
				for _, s.State = range []byte{api.Ready, api.Waits, api.Dead} {
					holdRaise(t, s, n)
					s.Open = !s.Open
					holdRaise(t, s, n)
				}
			}
		}
	}
}

func TestRaiseOfNoLine(t *testing.T) {
	for _, state := range []byte{api.Ready, api.Waits, api.Dead} {
		s := full()
		// It waits though a line that may come was raised: a Raise that is refused doesn't wake it.
		s.State, s.Pend, s.Mask, s.Open = state, 0x0f, 0xff, true
		for _, n := range noLines {
			got := s
			if e := Raise(&got, n); e != api.ErrArg || got != s {
				t.Errorf("Raise of line %d in state %d: %d, %+v", n, state, e, got)
			}
		}
	}
}

func TestRaiseOfADeadSeat(t *testing.T) {
	for n := range 8 {
		s := full()
		s.State, s.Mask, s.Open = api.Dead, 255, true
		want := s
		if e := Raise(&s, n); e != api.ErrState || s != want {
			t.Errorf("Raise of line %d: %d, %+v", n, e, s)
		}
	}
}

func TestNilSeat(t *testing.T) {
	for _, n := range append([]int{0, 1, 7}, noLines...) {
		if e := Raise(nil, n); e != api.ErrArg {
			t.Errorf("Raise(nil, %d) = %d", n, e)
		}
	}
	Wake(nil)
	if n, ok := Next(nil); n != 0 || ok {
		t.Errorf("Next(nil) = %d, %v", n, ok)
	}
	if n, ok := Take(nil); n != 0 || ok {
		t.Errorf("Take(nil) = %d, %v", n, ok)
	}
}

func TestZeroSeat(t *testing.T) {
	holdOthers(t, api.Seat{})
	for n := range 8 {
		holdRaise(t, api.Seat{}, n)
	}
}

func TestExample(t *testing.T) {
	s := api.Seat{Mask: 6, Open: true}
	Raise(&s, 2)
	Raise(&s, 1)
	for _, want := range []int{1, 2} {
		if n, ok := Take(&s); n != want || !ok {
			t.Errorf("Take = %d, %v; want %d", n, ok, want)
		}
	}
	if n, ok := Take(&s); n != 0 || ok || s.Pend != 0 {
		t.Errorf("Take of none = %d, %v, Pend %d", n, ok, s.Pend)
	}
}

func TestWaitsForALineThatMayCome(t *testing.T) {
	s := api.Seat{State: api.Waits, Mask: 1 << 7}
	for n := range 7 {
		if Raise(&s, n) != api.OK || s.State != api.Waits {
			t.Fatalf("line %d, which may not come: state %d", n, s.State)
		}
	}
	if Raise(&s, 7) != api.OK || s.State != api.Ready || s.Pend != 255 {
		t.Fatalf("line 7: state %d, Pend %x", s.State, s.Pend)
	}
	s = api.Seat{State: api.Waits, Pend: 1}
	if Wake(&s); s.State != api.Waits {
		t.Error("awake though no line may come")
	}
	s.Mask = 1
	// A line that was raised before wakes it as soon as it may come, though none else is raised.
	if Wake(&s); s.State != api.Ready || s.Pend != 1 {
		t.Errorf("state %d, Pend %x", s.State, s.Pend)
	}
}

// Raise wakes by any line in common, not by the one that is raised alone.
func TestRaiseWakesByAnyLine(t *testing.T) {
	s := api.Seat{State: api.Waits, Pend: 1, Mask: 1}
	if Raise(&s, 5) != api.OK || s.State != api.Ready || s.Pend != 33 {
		t.Errorf("state %d, Pend %x", s.State, s.Pend)
	}
}

func TestAllLinesTaken(t *testing.T) {
	s := api.Seat{Pend: 255, Mask: 255, Open: true}
	for want := range 8 {
		if n, ok := Next(&s); n != want || !ok {
			t.Errorf("Next = %d, %v; want %d", n, ok, want)
		}
		if n, ok := Take(&s); n != want || !ok {
			t.Errorf("Take = %d, %v; want %d", n, ok, want)
		}
	}
	holdOthers(t, s)
}

func TestManySteps(t *testing.T) {
	r := rand.New(rand.NewSource(9))
	s := full()
	for step := range 20000 {
		want := s
		switch r.Intn(8) {
		case 0, 1:
			n := r.Intn(12) - 2
			var wantErr, e api.Errno
			want, wantErr = raised(want, n)
			if e = Raise(&s, n); e != wantErr {
				t.Fatalf("step %d: Raise(%d) = %d; want %d", step, n, e, wantErr)
			}
		case 2:
			want = woken(want)
			Wake(&s)
		case 3:
			wantN, wantOK := next(want)
			if n, ok := Next(&s); n != wantN || ok != wantOK {
				t.Fatalf("step %d: Next = %d, %v; want %d, %v", step, n, ok, wantN, wantOK)
			}
		case 4, 5:
			var wantN int
			var wantOK bool
			want, wantN, wantOK = taken(want)
			if n, ok := Take(&s); n != wantN || ok != wantOK {
				t.Fatalf("step %d: Take = %d, %v; want %d, %v", step, n, ok, wantN, wantOK)
			}
		case 6:
			s.State = byte(r.Intn(3))
			want.State = s.State
		case 7:
			s.Mask, s.Open = uint32(r.Intn(256)), r.Intn(3) > 0
			want.Mask, want.Open = s.Mask, s.Open
		}
		if s != want {
			t.Fatalf("step %d: %+v; want %+v", step, s, want)
		}
	}
}

// Beyond what is promised there are no answers to hold to, but the calls end.
func TestPendAndMaskBeyondLines(t *testing.T) {
	for _, w := range []uint32{1 << 8, 1 << 31, math.MaxUint32, 0xffffff00} {
		s := api.Seat{Pend: w, Mask: w, Open: true, State: api.Waits}
		Raise(&s, 7)
		Wake(&s)
		Next(&s)
		Take(&s)
	}
}
