package turn

import (
	"math"
	"math/rand"
	"slices"
	"testing"
)

var (
	noVMs   = []int{-1, 6, -2, -6, 7, 12, 17, 18, 255, 256, 1 << 32, 1<<32 + 1, math.MaxInt, math.MinInt}
	noSeats = []int{-1, 3, -2, -3, 4, 6, 17, 18, 255, 256, 1 << 32, 1<<32 + 1, math.MaxInt, math.MinInt}
)

// told is Pick told plainly: whoever is ready is asked for Full turns, for one less, and so on; if nobody has any, all are given Full, and it is told again.
func told(t [18]int, ready [18]bool) ([18]int, int) {
	if ready == [18]bool{} {
		return t, -1
	}
	for turns := 3; turns >= 1; turns-- {
		for n := 0; n <= 17; n++ {
			if ready[n] && t[n] == turns {
				t[n] = turns - 1
				return t, n
			}
		}
	}
	for n := range t {
		t[n] = 3
	}
	return told(t, ready)
}

// hold: is what Pick answers as it is told, and does it leave what it was handed?
func hold(t *testing.T, x Turns, ready [18]bool) (Turns, int) {
	t.Helper()
	was, wasReady := x, ready
	want, wantN := told(x, ready)
	for range 2 {
		y, n := x.Pick(ready)
		if y != want || n != wantN {
			t.Fatalf("Pick of %v, ready %v = %v, %d; want %v, %d", was, wasReady, y, n, want, wantN)
		}
		if x != was || ready != wasReady {
			t.Fatalf("Pick has changed what it was handed: %v, %v; was %v, %v", x, ready, was, wasReady)
		}
	}
	return want, wantN
}

// each: so many turns of every seat.
func each(turns int) Turns {
	var x Turns
	for n := range x {
		x[n] = turns
	}
	return x
}

// of: those seats are ready.
func of(numbers ...int) [18]bool {
	var ready [18]bool
	for _, n := range numbers {
		ready[n] = true
	}
	return ready
}

func everybody() [18]bool {
	var ready [18]bool
	for n := range ready {
		ready[n] = true
	}
	return ready
}

func TestNumbers(t *testing.T) {
	if Full != 3 || Seats != 18 || len(Turns{}) != 18 {
		t.Fatal(Full, Seats, len(Turns{}))
	}
	n := 0
	for vm := range 6 {
		for seat := range 3 {
			if got := Number(vm, seat); got != n {
				t.Errorf("Number(%d, %d) = %d; want %d", vm, seat, got, n)
			}
			if v, s := Of(n); v != vm || s != seat {
				t.Errorf("Of(%d) = %d, %d; want %d, %d", n, v, s, vm, seat)
			}
			n++
		}
	}
	if v, s := Of(Seats - 1); v != 5 || s != 2 {
		t.Errorf("Of the last number = %d, %d", v, s)
	}
}

func TestNumberOfNoSeat(t *testing.T) {
	none := func(vm, seat int) {
		t.Helper()
		if n := Number(vm, seat); n != -1 {
			t.Errorf("Number(%d, %d) = %d", vm, seat, n)
		}
	}
	for _, vm := range noVMs {
		for _, seat := range append([]int{0, 1, 2}, noSeats...) {
			none(vm, seat)
		}
	}
	for _, seat := range noSeats {
		for vm := range 6 {
			none(vm, seat)
		}
	}
}

// Of other numbers nothing is promised but that it answers.
func TestOfOfNoNumber(t *testing.T) {
	for _, n := range []int{-1, 18, -3, -18, 19, 1 << 32, math.MaxInt, math.MinInt} {
		Of(n)
	}
}

func TestExample(t *testing.T) {
	for _, two := range [][2]int{{0, 1}, {2, 17}, {16, 17}, {0, 17}, {5, 6}} {
		var x Turns
		for i := range 20 {
			y, n := x.Pick(of(two[0], two[1]))
			if n != two[i%2] {
				t.Fatalf("pick %d of %v: %d", i, two, n)
			}
			x = y
		}
	}
}

func TestNoneReady(t *testing.T) {
	for turns := 0; turns <= Full; turns++ {
		x := each(turns)
		if y, n := x.Pick([18]bool{}); n != -1 || y != x {
			t.Errorf("of %v: %v, %d", x, y, n)
		}
	}
	// Turns that aren't alike stay each where it is.
	x := Turns{0, 1, 2, 3, 0, 0, 3, 3, 2, 1, 0, 2, 2, 1, 1, 3, 0, 1}
	if y, n := x.Pick([18]bool{}); n != -1 || y != x {
		t.Errorf("of %v: %v, %d", x, y, n)
	}
}

func TestOneReady(t *testing.T) {
	for one := range 18 {
		for others := 0; others <= Full; others++ {
			for turns := 0; turns <= Full; turns++ {
				x := each(others)
				x[one] = turns
				want := x
				if turns == 0 {
					want = each(3)
				}
				want[one]--
				if y, n := x.Pick(of(one)); n != one || y != want {
					t.Fatalf("of %v, %d ready: %v, %d; want %v", x, one, y, n, want)
				}
				hold(t, x, of(one))
			}
		}
	}
}

func TestAllReady(t *testing.T) {
	// With as many each, everybody has a turn ahead of anyone's second one.
	for turns := 0; turns <= Full; turns++ {
		x := each(turns)
		for i := range 18 * 8 {
			y, n := x.Pick(everybody())
			if n != i%18 {
				t.Fatalf("of %d each: pick %d is %d", turns, i, n)
			}
			x = y
		}
	}
	// None has any: seat 0 is picked, and all others have Full.
	want := each(Full)
	want[0] = Full - 1
	if y, n := each(0).Pick(everybody()); n != 0 || y != want {
		t.Errorf("%v, %d; want %v", y, n, want)
	}
	// The last one alone has any: nobody is given anew.
	var x Turns
	x[17] = 1
	if y, n := x.Pick(everybody()); n != 17 || y != (Turns{}) {
		t.Errorf("%v, %d", y, n)
	}
}

// Those who aren't ready aren't picked, however many turns they have, nor do theirs stand in the way of new ones.
func TestWhoIsNotReadyWithTurns(t *testing.T) {
	x := each(Full)
	x[4], x[9] = 0, 0
	want := each(Full)
	want[4] = Full - 1
	y, n := x.Pick(of(4, 9))
	if n != 4 || y != want {
		t.Fatalf("%v, %d; want %v", y, n, want)
	}
	x = each(1)
	x[4], x[9], x[0], x[17] = 0, 0, 2, 0
	if y, n = x.Pick(of(4, 9)); n != 4 || y != want {
		t.Fatalf("%v, %d; want %v", y, n, want)
	}
}

// Whoever has none waits for those who have, and nobody is given any as long as one who is ready has.
func TestSomeWithNone(t *testing.T) {
	x := Turns{0, 2, 0, 1, 0, 2}
	ready := of(0, 1, 2, 3, 4, 5)
	for i, want := range []struct {
		n int
		x Turns
	}{
		{1, Turns{0, 1, 0, 1, 0, 2}},
		{5, Turns{0, 1, 0, 1, 0, 1}},
	} {
		// The first of these two has as many as the other, and stands first.
		y, n := x.Pick(ready)
		if n != want.n || y != want.x {
			t.Fatalf("pick %d: %v, %d; want %v, %d", i, y, n, want.x, want.n)
		}
		x = y
	}
	for i, want := range []int{1, 3, 5, 0, 1, 2, 3, 4, 5, 0} {
		y, n := hold(t, x, ready)
		if n != want {
			t.Fatalf("pick %d: %d; want %d", i, n, want)
		}
		x = y
	}
	if x != (Turns{1, 2, 2, 2, 2, 2, 3, 3, 3, 3, 3, 3, 3, 3, 3, 3, 3, 3}) {
		t.Errorf("at last: %v", x)
	}
}

func TestAsManyTurns(t *testing.T) {
	for a := range 18 {
		for b := range 18 {
			for turns := 1; turns <= Full; turns++ {
				var x Turns
				x[a], x[b] = turns, turns
				if _, n := x.Pick(everybody()); n != min(a, b) {
					t.Errorf("of %d and %d, with %d each: %d", a, b, turns, n)
				}
				x[a] = turns - 1
				if _, n := x.Pick(everybody()); a != b && n != b {
					t.Errorf("of %d with %d and %d with %d: %d", a, turns-1, b, turns, n)
				}
			}
		}
	}
}

// Three seats: all their turns, those of all others, and who of them is ready.
func TestEveryThree(t *testing.T) {
	for _, three := range [][3]int{{0, 1, 2}, {0, 8, 17}, {15, 16, 17}} {
		for i := range 4 * 4 * 4 * 4 * 8 {
			x := each(i / 512)
			var ready [18]bool
			for at, n := range three {
				x[n] = i >> (3 + 2*at) % 4
				ready[n] = i>>at%2 == 1
			}
			hold(t, x, ready)
		}
	}
}

func TestRowsOfPicks(t *testing.T) {
	r := rand.New(rand.NewSource(13))
	for range 300 {
		var x Turns
		for n := range x {
			x[n] = r.Intn(Full + 1)
		}
		var ready [18]bool
		for i := range 150 {
			if i%10 == 0 {
				readiness := r.Intn(5)
				for n := range ready {
					ready[n] = r.Intn(4) < readiness
				}
			}
			ready[r.Intn(18)] = r.Intn(2) == 0
			x, _ = hold(t, x, ready)
			if slices.Min(x[:]) < 0 || slices.Max(x[:]) > Full {
				t.Fatalf("turns that may not be: %v", x)
			}
		}
	}
}

// Of turns that may not be nothing is promised but that there is an answer, and the same one again.
func TestTurnsThatMayNotBe(t *testing.T) {
	for _, turns := range []int{-1, -2, 4, 1 << 32, math.MaxInt, math.MinInt} {
		for _, ready := range [][18]bool{everybody(), of(0), of(17), of(3, 4), {}} {
			x := each(turns)
			x[4] = 1
			y, n := x.Pick(ready)
			if z, m := x.Pick(ready); y != z || n != m || n < -1 || n > 17 || n >= 0 && !ready[n] {
				t.Errorf("of %d each: %d, then %d", turns, n, m)
			}
		}
	}
}
