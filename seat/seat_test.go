package seat

import (
	"math"
	"math/rand"
	"slices"
	"testing"

	"hermitcrab/api"
	"hermitcrab/code"
	"hermitcrab/word"
)

const greatest = math.MaxUint64

var (
	values   = []uint64{0, 1, 2, 3, 7, 64, 127, 128, 254, 255, 256, 257, 0x1fe, 0x1ff, 0xff00, 1 << 31, 1<<32 - 1, 1 << 32, 1<<32 + 1, 1 << 62, 1<<63 - 1, 1 << 63, greatest - 1, greatest}
	numbers  = []int{0, 1, 2, 3, -1, -2, -3, 255, 256, 1 << 32, math.MaxInt32, math.MinInt32, math.MaxInt, math.MinInt, math.MinInt + 1}
	noNumber = []int{-1, 9, 10, -2, -9, 15, 16, 63, 64, 255, 256, 261, 1 << 32, 1<<32 + 6, math.MinInt32, math.MaxInt, math.MinInt}
)

// full: a seat in which no field is nought, and no two words are alike.
func full() api.Seat {
	s := api.Seat{PC: 101, Base: 102, Vec: 103, EPC: 104, Cause: 105, Addr: 106, Open: true, State: api.Dead, Pend: 0x5a, Mask: 0xe7}
	for i := range s.R {
		s.R[i] = uint64(1000 + i)
	}
	return s
}

// fullWords are its words, written out by hand.
func fullWords() []uint64 {
	return []uint64{
		1000, 1001, 1002, 1003, 1004, 1005, 1006, 1007, 1008, 1009, 1010, 1011, 1012, 1013, 1014, 1015,
		101, 102, 103, 104, 105, 106, 1, 2, 0x5a, 0xe7,
	}
}

// some: seats of many kinds, full ones and empty ones, at the ends of what a seat may be.
func some() []api.Seat {
	l := []api.Seat{{}, full(), {Open: true}, {State: api.Waits}, {State: api.Dead}, {Pend: 255}, {Mask: 255}, {Vec: 64}, {Vec: greatest, PC: greatest, EPC: 1}}
	r := rand.New(rand.NewSource(11))
	for range 60 {
		l = append(l, anySeat(r))
	}
	return l
}

func anySeat(r *rand.Rand) api.Seat {
	s := api.Seat{PC: anyWord(r), Base: anyWord(r), Vec: anyWord(r), EPC: anyWord(r), Cause: anyWord(r), Addr: anyWord(r)}
	for i := range s.R {
		s.R[i] = anyWord(r)
	}
	s.Open, s.State = r.Intn(2) == 1, byte(r.Intn(3))
	s.Pend, s.Mask = uint32(r.Intn(256)), uint32(r.Intn(256))
	return s
}

func anyWord(r *rand.Rand) uint64 {
	if r.Intn(3) == 0 {
		return values[r.Intn(len(values))]
	}
	return r.Uint64()
}

// flag is a bool as a word, told by the chapter: 1 or 0.
func flag(is bool) uint64 {
	if !is {
		return 0
	}
	return 1
}

// wordsOf tells a seat's words one behind the other, by the chapter's row.
func wordsOf(s api.Seat) []uint64 {
	var l []uint64
	for i := 0; i <= 15; i++ {
		l = append(l, s.R[i])
	}
	l = append(l, s.PC)
	l = append(l, s.Base)
	l = append(l, s.Vec)
	l = append(l, s.EPC)
	l = append(l, s.Cause)
	l = append(l, s.Addr)
	l = append(l, flag(s.Open))
	l = append(l, uint64(s.State))
	l = append(l, uint64(s.Pend))
	return append(l, uint64(s.Mask))
}

func TestNew(t *testing.T) {
	s := New()
	if s != (api.Seat{}) || s.State != api.Ready {
		t.Errorf("New = %+v", s)
	}
	s.R[0], s.PC, s.State = 1, 2, api.Dead
	if s = New(); s != (api.Seat{}) {
		t.Errorf("the next New = %+v", s)
	}
}

func TestPackOfAFullSeat(t *testing.T) {
	l := Pack(full())
	if !slices.Equal(l, fullWords()) || len(l) != 26 || Words != 26 {
		t.Errorf("Pack = %v; want %v", l, fullWords())
	}
	if s, ok := Unpack(fullWords()); s != full() || !ok {
		t.Errorf("Unpack = %+v, %v", s, ok)
	}
}

func TestPackOfNew(t *testing.T) {
	if l := Pack(New()); !slices.Equal(l, make([]uint64, 26)) {
		t.Errorf("Pack = %v", l)
	}
	if s, ok := Unpack(make([]uint64, 26)); s != New() || !ok {
		t.Errorf("Unpack = %+v, %v", s, ok)
	}
}

func TestPackAndBack(t *testing.T) {
	for _, s := range some() {
		l := Pack(s)
		if !slices.Equal(l, wordsOf(s)) {
			t.Fatalf("Pack(%+v) = %v; want %v", s, l, wordsOf(s))
		}
		if back, ok := Unpack(l); back != s || !ok {
			t.Fatalf("Unpack(%v) = %+v, %v; want %+v", l, back, ok, s)
		}
	}
}

// Every Pend and every Mask, in each state, open or not: none is left out.
func TestPackAndBackOfEveryLine(t *testing.T) {
	s := full()
	for pend := range uint32(256) {
		for mask := range uint32(256) {
			s.Pend, s.Mask = pend, mask
			s.State, s.Open = byte(pend+mask)%3, mask%2 == 0
			l := Pack(s)
			if back, ok := Unpack(l); back != s || !ok || !slices.Equal(l, wordsOf(s)) {
				t.Fatalf("Unpack(%v) = %+v, %v; want %+v", l, back, ok, s)
			}
		}
	}
}

// Pack refuses nothing: what no seat may be goes into the words as it is, and Unpack doesn't take it.
func TestPackOfWhatMayNotBe(t *testing.T) {
	for _, change := range []func(s *api.Seat){
		func(s *api.Seat) { s.State = 3 },
		func(s *api.Seat) { s.State = 255 },
		func(s *api.Seat) { s.Pend = 256 },
		func(s *api.Seat) { s.Pend = math.MaxUint32 },
		func(s *api.Seat) { s.Mask = 256 },
		func(s *api.Seat) { s.Mask = math.MaxUint32 },
	} {
		s := full()
		change(&s)
		l := Pack(s)
		if !slices.Equal(l, wordsOf(s)) {
			t.Errorf("Pack(%+v) = %v", s, l)
		}
		if back, ok := Unpack(l); back != (api.Seat{}) || ok {
			t.Errorf("Unpack(%v) = %+v, %v", l, back, ok)
		}
	}
}

func TestUnpackOfOtherCounts(t *testing.T) {
	long := append(fullWords(), fullWords()...)
	for n := range len(long) + 1 {
		want := api.Seat{}
		if n == 26 {
			want = full()
		}
		if s, ok := Unpack(long[:n]); s != want || ok != (n == 26) {
			t.Errorf("Unpack of %d words = %+v, %v", n, s, ok)
		}
	}
	noughts := make([]uint64, 27)
	for _, l := range [][]uint64{nil, {}, noughts[:1], noughts[:25], noughts, make([]uint64, 1000)} {
		if s, ok := Unpack(l); s != (api.Seat{}) || ok {
			t.Errorf("Unpack of %d noughts = %+v, %v", len(l), s, ok)
		}
	}
}

// The words of which not each value may be, and the greatest that may: 22 Open, 23 State, 24 Pend, 25 Mask.
func TestUnpackAtTheEdges(t *testing.T) {
	for _, x := range []struct {
		at   int
		most uint64
	}{{22, 1}, {23, 2}, {24, 255}, {25, 255}} {
		for _, v := range append([]uint64{x.most - 1, x.most, x.most + 1, 1<<32 + x.most, 1<<32 - 1<<8, 1 << 8, 1<<63 + 1}, values...) {
			l := fullWords()
			l[x.at] = v
			s, ok := Unpack(l)
			if v > x.most {
				if s != (api.Seat{}) || ok {
					t.Errorf("Unpack with %d at %d = %+v, %v", v, x.at, s, ok)
				}
				continue
			}
			if !ok || !slices.Equal(wordsOf(s), l) {
				t.Errorf("Unpack with %d at %d = %+v, %v", v, x.at, s, ok)
			}
		}
	}
}

func TestUnpackOfEveryValueElsewhere(t *testing.T) {
	for at := range 22 {
		for _, v := range values {
			l := fullWords()
			l[at] = v
			if s, ok := Unpack(l); !ok || !slices.Equal(wordsOf(s), l) {
				t.Errorf("Unpack with %d at %d = %+v, %v", v, at, s, ok)
			}
		}
	}
}

func TestUnpackChangesNothing(t *testing.T) {
	wrong := fullWords()
	wrong[22] = 2
	for _, l := range [][]uint64{fullWords(), wrong, fullWords()[:25]} {
		kept := slices.Clone(l)
		if Unpack(l); !slices.Equal(l, kept) {
			t.Errorf("Unpack has changed %v to %v", kept, l)
		}
	}
	l := fullWords()
	s, _ := Unpack(l)
	clear(l)
	if s != full() {
		t.Errorf("what was unpacked has changed with its words: %+v", s)
	}
}

// What Pack has answered is the caller's: it may be written over and appended to.
func TestPackAnswersNewWords(t *testing.T) {
	s := full()
	l, other := Pack(s), Pack(s)
	_ = append(l, 1, 2, 3)
	clear(l)
	if s != full() || !slices.Equal(other, fullWords()) || !slices.Equal(Pack(s), fullWords()) {
		t.Errorf("%+v, %v", s, other)
	}
}

func TestSum(t *testing.T) {
	for _, s := range some() {
		var want uint64
		for _, w := range wordsOf(s) {
			want = word.Mix(want, w)
		}
		if sum := Sum(s); sum != want {
			t.Errorf("Sum(%+v) = %x; want %x", s, sum, want)
		}
	}
	// Of noughts it stays 0; of a 1 in the last word it is the factor of Mix, in the one ahead of it that once more.
	for _, x := range []struct {
		s    api.Seat
		want uint64
	}{
		{api.Seat{}, 0},
		{api.Seat{Mask: 1}, 0x9e3779b97f4a7c15},
		{api.Seat{Pend: 1}, word.Mix(0x9e3779b97f4a7c15, 0)},
	} {
		if sum := Sum(x.s); sum != x.want {
			t.Errorf("Sum(%+v) = %x; want %x", x.s, sum, x.want)
		}
	}
}

func TestSumOfEachWord(t *testing.T) {
	sums := []uint64{Sum(full())}
	for at := range 26 {
		l := fullWords()
		l[at] ^= 1
		if s, ok := Unpack(l); ok {
			sums = append(sums, Sum(s))
		}
	}
	// Of State, 2 becomes 3, which no seat is.
	slices.Sort(sums)
	if n := len(slices.Compact(sums)); n != 26 {
		t.Errorf("%d sums of 26 seats", n)
	}
}

// trapped and returned tell plainly what a seat is behind Trap and Back.
func trapped(s api.Seat, cause, addr uint64) api.Seat {
	if s.Vec == 0 {
		s.State = 2
		return s
	}
	at := s.PC
	s.PC = s.Vec
	s.EPC = at
	s.Cause = cause
	s.Addr = addr
	s.Open = false
	return s
}

func returned(s api.Seat) api.Seat {
	s.PC = s.EPC
	s.Open = true
	return s
}

func TestTrapAndBack(t *testing.T) {
	for _, s := range some() {
		for _, s.Vec = range []uint64{0, 1, 64, 1 << 32, 1 << 63, greatest} {
			for _, s.State = range []byte{api.Ready, api.Waits, api.Dead} {
				for _, s.Open = range []bool{false, true} {
					holdTrap(t, s, s.R[1], s.R[2])
				}
			}
		}
	}
	for _, cause := range append([]uint64{api.BadCode, api.BadFetch, api.BadLoad, api.BadStore, api.Line, api.Line + 7}, values...) {
		for _, addr := range values {
			holdTrap(t, full(), cause, addr)
		}
	}
}

func holdTrap(t *testing.T, s api.Seat, cause, addr uint64) {
	t.Helper()
	got := s
	if Trap(&got, cause, addr); got != trapped(s, cause, addr) {
		t.Fatalf("Trap(%+v, %d, %d): %+v", s, cause, addr, got)
	}
	want := returned(got)
	if Back(&got); got != want {
		t.Fatalf("Back: %+v; want %+v", got, want)
	}
	got = s
	if Back(&got); got != returned(s) {
		t.Fatalf("Back(%+v): %+v", s, got)
	}
}

func TestTrapWithNoPlaceForTraps(t *testing.T) {
	s := New()
	if Trap(&s, 3, 4); s != (api.Seat{State: api.Dead}) {
		t.Errorf("%+v", s)
	}
	s, want := full(), full()
	s.Vec, s.State, want.Vec, want.State = 0, api.Ready, 0, api.Dead
	// It dies with all else as it was: open, and with the cause of the trap ahead.
	if Trap(&s, 3, 4); s != want {
		t.Errorf("%+v; want %+v", s, want)
	}
}

func TestTrapInATrap(t *testing.T) {
	s := api.Seat{PC: 12, Vec: 64, Open: true}
	Trap(&s, 3, 99)
	if s != (api.Seat{PC: 64, Vec: 64, EPC: 12, Cause: 3, Addr: 99}) {
		t.Fatalf("%+v", s)
	}
	s.PC = 68
	Trap(&s, 4, 98)
	if s != (api.Seat{PC: 64, Vec: 64, EPC: 68, Cause: 4, Addr: 98}) {
		t.Fatalf("%+v", s)
	}
	Back(&s)
	if s != (api.Seat{PC: 68, Vec: 64, EPC: 68, Cause: 4, Addr: 98, Open: true}) {
		t.Fatalf("%+v", s)
	}
}

// got and set tell plainly, by the numbers that layer 2 gives, what Get answers, and what a seat is behind Set.
func got(s api.Seat, n int, time uint64, me int) (uint64, bool) {
	if n < 0 || n > 8 {
		return 0, false
	}
	number := uint64(me)
	if me < 0 {
		number = greatest - uint64(-(me + 1))
	}
	return [9]uint64{s.Base, s.Vec, s.EPC, s.Cause, s.Addr, uint64(s.Mask), flag(s.Open), time, number}[n], true
}

func set(s api.Seat, n int, v uint64) (api.Seat, bool) {
	switch n {
	case 0:
		s.Base = v
	case 1:
		s.Vec = v
	case 2:
		s.EPC = v
	case 3:
		s.Cause = v
	case 4:
		s.Addr = v
	case 5:
		s.Mask = uint32(v % 256)
	case 6:
		s.Open = v%2 == 1
	default:
		return s, false
	}
	return s, true
}

func holdGet(t *testing.T, s api.Seat, n int, time uint64, me int) {
	t.Helper()
	want, wantOK := got(s, n, time, me)
	if v, ok := Get(s, n, time, me); v != want || ok != wantOK {
		t.Fatalf("Get(%+v, %d, %d, %d) = %d, %v; want %d, %v", s, n, time, me, v, ok, want, wantOK)
	}
}

func holdSet(t *testing.T, s api.Seat, n int, v uint64) {
	t.Helper()
	want, wantOK := set(s, n, v)
	x := s
	if ok := Set(&x, n, v); x != want || ok != wantOK {
		t.Fatalf("Set(%+v, %d, %d) = %v, %+v; want %v, %+v", s, n, v, ok, x, wantOK, want)
	}
	for m := -1; m <= 9; m++ {
		holdGet(t, x, m, 77, 2)
	}
}

func TestGetOfAFullSeat(t *testing.T) {
	for _, x := range []struct {
		n    int
		want uint64
	}{
		{code.Base, 102}, {code.Vec, 103}, {code.EPC, 104}, {code.Cause, 105}, {code.Addr, 106}, {code.Mask, 0xe7}, {code.Open, 1}, {code.Clock, 55}, {code.Me, 2},
	} {
		if v, ok := Get(full(), x.n, 55, 2); v != x.want || !ok {
			t.Errorf("Get(%d) = %d, %v; want %d", x.n, v, ok, x.want)
		}
		if v, ok := Get(New(), x.n, 0, 0); v != 0 || !ok {
			t.Errorf("Get(%d) of a new one = %d, %v", x.n, v, ok)
		}
	}
}

func TestGetAndSet(t *testing.T) {
	for _, s := range some() {
		for n := range code.Regs {
			for _, v := range values {
				holdSet(t, s, n, v)
				holdGet(t, s, n, v, 1)
			}
			for _, me := range numbers {
				holdGet(t, s, n, 99, me)
			}
		}
	}
}

func TestMeBelowNought(t *testing.T) {
	for _, x := range []struct {
		me   int
		want uint64
	}{{-1, greatest}, {-2, greatest - 1}, {math.MinInt, 1 << 63}, {math.MaxInt, 1<<63 - 1}, {0, 0}} {
		if v, ok := Get(full(), code.Me, 5, x.me); v != x.want || !ok {
			t.Errorf("Get(Me) of seat %d = %d, %v; want %d", x.me, v, ok, x.want)
		}
	}
}

// Every Mask, and every one with a bit beyond the lines.
func TestSetOfEveryMask(t *testing.T) {
	for _, s := range []api.Seat{{}, full()} {
		for v := range uint64(1024) {
			for _, more := range []uint64{0, 1 << 32, 1 << 63, greatest - 1023} {
				holdSet(t, s, code.Mask, v+more)
				holdSet(t, s, code.Open, v+more)
			}
		}
	}
}

func TestReadAlone(t *testing.T) {
	for _, n := range []int{code.Clock, code.Me} {
		for _, v := range values {
			s := full()
			if Set(&s, n, v) || s != full() {
				t.Errorf("Set(%d, %d): %+v", n, v, s)
			}
			if _, ok := Get(s, n, 1, 1); !ok {
				t.Errorf("Get(%d) = false", n)
			}
		}
	}
}

func TestNoSuchRegister(t *testing.T) {
	for _, n := range noNumber {
		for _, v := range values {
			s := full()
			if Set(&s, n, v) || s != full() {
				t.Errorf("Set(%d, %d): %+v", n, v, s)
			}
			if w, ok := Get(s, n, v, 3); w != 0 || ok {
				t.Errorf("Get(%d) = %d, %v", n, w, ok)
			}
		}
	}
}

func TestNilSeat(t *testing.T) {
	Trap(nil, 1, 2)
	Trap(nil, 0, 0)
	Back(nil)
	for n := -2; n <= 12; n++ {
		for _, v := range values {
			if Set(nil, n, v) {
				t.Errorf("Set(nil, %d, %d) = true", n, v)
			}
		}
	}
	for _, n := range noNumber {
		if Set(nil, n, 1) {
			t.Errorf("Set(nil, %d) = true", n)
		}
	}
}

// Get and Sum have a seat of their own, and change none.
func TestAskingChangesNothing(t *testing.T) {
	s := full()
	for n := -1; n <= 9; n++ {
		Get(s, n, 1, 2)
	}
	Sum(s)
	Pack(s)
	if s != full() {
		t.Errorf("%+v", s)
	}
}

// A seat hangs on what it was told alone, whatever other seats were told between.
func TestManySteps(t *testing.T) {
	r := rand.New(rand.NewSource(11))
	seats, wants := [3]api.Seat{}, [3]api.Seat{}
	for step := range 20000 {
		i := r.Intn(3)
		s, want := &seats[i], &wants[i]
		switch r.Intn(5) {
		case 0:
			cause, addr := anyWord(r), anyWord(r)
			Trap(s, cause, addr)
			*want = trapped(*want, cause, addr)
		case 1:
			Back(s)
			*want = returned(*want)
		case 2, 3:
			n, v := r.Intn(13)-2, anyWord(r)
			var wantOK bool
			*want, wantOK = set(*want, n, v)
			if ok := Set(s, n, v); ok != wantOK {
				t.Fatalf("step %d: Set(%d, %d) = %v", step, n, v, ok)
			}
		case 4:
			holdGet(t, *s, r.Intn(13)-2, anyWord(r), r.Intn(5)-2)
			back, ok := Unpack(Pack(*s))
			if !ok {
				t.Fatalf("step %d: Unpack of what Pack made: false", step)
			}
			*s = back
		}
		if seats != wants {
			t.Fatalf("step %d: %+v; want %+v", step, seats, wants)
		}
	}
}
