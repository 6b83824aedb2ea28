package alarm

import (
	"math"
	"math/rand"
	"slices"
	"testing"

	"hermitcrab/api"
)

const greatest = math.MaxUint64

var (
	noVMs   = []int{-1, 6, -2, -6, 7, 12, 255, 256, 1 << 32, 1<<32 + 1, math.MaxInt, math.MinInt}
	noSeats = []int{-1, 3, -2, -3, 4, 6, 255, 256, 1 << 32, 1<<32 + 1, math.MaxInt, math.MinInt}
)

// table is a clock told plainly: of each VM's seats the times at which it has an alarm, one or none.
type table [6][3][]uint64

func (m *table) has(vm, seat int) bool {
	return vm >= 0 && vm <= 5 && seat >= 0 && seat <= 2
}

func (m *table) set(vm, seat int, at uint64) api.Errno {
	if !m.has(vm, seat) {
		return api.ErrArg
	}
	m[vm][seat] = []uint64{at}
	return api.OK
}

func (m *table) drop(vm, seat int) {
	if m.has(vm, seat) {
		m[vm][seat] = nil
	}
}

func (m *table) dropVM(vm int) {
	if m.has(vm, 0) {
		m[vm] = [3][]uint64{}
	}
}

// all goes through the alarms again and again, and picks the one that comes next.
func (m *table) all() []Alarm {
	rest := *m
	var l []Alarm
	for {
		first := Alarm{VM: -1}
		for vm := range rest {
			for seat, at := range rest[vm] {
				if len(at) == 1 && (first.VM < 0 || at[0] < first.At) {
					first = Alarm{At: at[0], VM: vm, Seat: seat}
				}
			}
		}
		if first.VM < 0 {
			return l
		}
		l = append(l, first)
		rest.drop(first.VM, first.Seat)
	}
}

func (m *table) due(now uint64) []Alarm {
	var l []Alarm
	for _, a := range m.all() {
		if a.At <= now {
			l = append(l, a)
			m.drop(a.VM, a.Seat)
		}
	}
	return l
}

func (m *table) shift(by uint64) {
	for _, a := range m.all() {
		sum := a.At + by
		if sum < a.At {
			sum = greatest
		}
		m.set(a.VM, a.Seat, sum)
	}
}

// hold: is all that a clock's calls tell as the table is? What is due is asked of twins.
func hold(t *testing.T, c *Clock, m table) {
	t.Helper()
	want := m.all()
	if l := c.All(); !slices.Equal(l, want) {
		t.Fatalf("All = %v; want %v", l, want)
	}
	holdDue(t, c, m, 0)
	holdDue(t, c, m, greatest)
	for _, a := range want {
		holdDue(t, c, m, a.At)
		holdDue(t, c, m, a.At-1)
		holdDue(t, c, m, a.At+1)
	}
	if l := c.All(); !slices.Equal(l, want) {
		t.Fatalf("All behind what was asked of twins = %v; want %v", l, want)
	}
}

func holdDue(t *testing.T, c *Clock, m table, now uint64) {
	t.Helper()
	d := c.Twin()
	want := m.due(now)
	if l := d.Due(now); !slices.Equal(l, want) {
		t.Fatalf("Due(%d) = %v; want %v", now, l, want)
	}
	if l := d.All(); !slices.Equal(l, m.all()) {
		t.Fatalf("All behind Due(%d) = %v; want %v", now, l, m.all())
	}
}

// filled: a clock with an alarm of each seat, the later VMs' first, two at each time, and the same as a table.
func filled(t *testing.T) (*Clock, table) {
	t.Helper()
	c, m := &Clock{}, table{}
	for i := range 18 {
		at := uint64(100 - i/2)
		if e := c.Set(i/3, i%3, at); e != api.OK {
			t.Fatalf("Set(%d, %d, %d) = %d", i/3, i%3, at, e)
		}
		m.set(i/3, i%3, at)
	}
	return c, m
}

func TestZeroValue(t *testing.T) {
	hold(t, &Clock{}, table{})
	c := &Clock{}
	c.Drop(0, 0)
	c.DropVM(0)
	c.Shift(5)
	// Noughts that aren't alarms aren't any later, either.
	hold(t, c, table{})
	var m table
	if e := c.Set(0, 0, 0); e != api.OK {
		t.Fatalf("Set = %d", e)
	}
	m.set(0, 0, 0)
	hold(t, c, m)
}

func TestSetOfEachSeat(t *testing.T) {
	for vm := range 6 {
		for seat := range 3 {
			for _, at := range []uint64{0, 1, 5, 1<<63 - 1, 1 << 63, greatest - 1, greatest} {
				c, m := &Clock{}, table{}
				if e := c.Set(vm, seat, at); e != api.OK {
					t.Fatalf("Set(%d, %d, %d) = %d", vm, seat, at, e)
				}
				m.set(vm, seat, at)
				hold(t, c, m)
			}
		}
	}
	c, m := filled(t)
	hold(t, c, m)
}

func TestSetAgain(t *testing.T) {
	for vm := range 6 {
		for seat := range 3 {
			for _, at := range []uint64{0, 95, 1000, greatest} {
				c, m := filled(t)
				c.Set(vm, seat, at)
				m.set(vm, seat, at)
				hold(t, c, m)
				if len(c.All()) != 18 {
					t.Fatalf("%d alarms of 18 seats", len(c.All()))
				}
			}
		}
	}
}

func TestSetOfNoSeat(t *testing.T) {
	c, m := filled(t)
	refused := func(vm, seat int) {
		t.Helper()
		if e := c.Set(vm, seat, 1); e != api.ErrArg {
			t.Errorf("Set(%d, %d) = %d", vm, seat, e)
		}
		if !slices.Equal(c.All(), m.all()) {
			t.Fatalf("Set(%d, %d) has changed the alarms: %v", vm, seat, c.All())
		}
	}
	for _, vm := range noVMs {
		for _, seat := range append([]int{0, 1, 2}, noSeats...) {
			refused(vm, seat)
		}
	}
	for _, seat := range noSeats {
		for vm := range 6 {
			refused(vm, seat)
		}
	}
	hold(t, c, m)
}

func TestDrop(t *testing.T) {
	for vm := range 6 {
		for seat := range 3 {
			c, m := filled(t)
			for range 2 {
				c.Drop(vm, seat)
				m.drop(vm, seat)
				hold(t, c, m)
			}
		}
		c, m := filled(t)
		for range 2 {
			c.DropVM(vm)
			m.dropVM(vm)
			hold(t, c, m)
		}
	}
}

func TestDropOfNoSeat(t *testing.T) {
	c, m := filled(t)
	for _, vm := range noVMs {
		c.DropVM(vm)
		for _, seat := range append([]int{0, 1, 2}, noSeats...) {
			c.Drop(vm, seat)
		}
	}
	for _, seat := range noSeats {
		for vm := range 6 {
			c.Drop(vm, seat)
		}
	}
	hold(t, c, m)
}

func TestExample(t *testing.T) {
	c := &Clock{}
	c.Set(0, 0, 5)
	c.Set(1, 0, 3)
	want := []Alarm{{At: 3, VM: 1}, {At: 5}}
	if l := c.Due(5); !slices.Equal(l, want) {
		t.Errorf("Due = %v; want %v", l, want)
	}
	if l := c.Due(greatest); len(l) != 0 {
		t.Errorf("due twice: %v", l)
	}
}

func TestDueAtItsTime(t *testing.T) {
	for _, at := range []uint64{1, 5, 1 << 63, greatest} {
		c := &Clock{}
		c.Set(5, 2, at)
		if l := c.Due(at - 1); len(l) != 0 {
			t.Errorf("one before %d: %v", at, l)
		}
		if l := c.Due(at); !slices.Equal(l, []Alarm{{At: at, VM: 5, Seat: 2}}) {
			t.Errorf("at %d: %v", at, l)
		}
		hold(t, c, table{})
	}
	c := &Clock{}
	c.Set(0, 0, 0)
	if l := c.Due(0); !slices.Equal(l, []Alarm{{}}) {
		t.Errorf("at 0: %v", l)
	}
}

// At one time they come by VM, then by seat, in whatever order they were set.
func TestOneTime(t *testing.T) {
	r := rand.New(rand.NewSource(10))
	for range 50 {
		c := &Clock{}
		for _, i := range r.Perm(18) {
			c.Set(i/3, i%3, 7)
		}
		c.Set(3, 1, 6)
		c.Set(2, 2, 8)
		want := []Alarm{{6, 3, 1}}
		for i := range 18 {
			if i != 10 && i != 8 {
				want = append(want, Alarm{7, i / 3, i % 3})
			}
		}
		want = append(want, Alarm{8, 2, 2})
		if l := c.All(); !slices.Equal(l, want) {
			t.Fatalf("All = %v; want %v", l, want)
		}
		if l := c.Due(7); !slices.Equal(l, want[:17]) {
			t.Fatalf("Due = %v; want %v", l, want[:17])
		}
		if l := c.Due(8); !slices.Equal(l, want[17:]) {
			t.Fatalf("Due = %v; want %v", l, want[17:])
		}
	}
}

func TestShift(t *testing.T) {
	for _, by := range []uint64{0, 1, 1000, 1 << 63, greatest - 101, greatest - 100, greatest - 99, greatest - 92, greatest - 91, greatest - 1, greatest} {
		c, m := filled(t)
		c.Set(2, 1, 0)
		m.set(2, 1, 0)
		c.Drop(4, 0)
		m.drop(4, 0)
		c.Shift(by)
		m.shift(by)
		hold(t, c, m)
		// What has stopped at the greatest time goes on from there, not from where it would be.
		c.Shift(by)
		m.shift(by)
		hold(t, c, m)
	}
}

func TestShiftToTheGreatestTime(t *testing.T) {
	for _, x := range []struct{ at, by, want uint64 }{
		{5, 0, 5}, {0, 0, 0}, {0, 5, 5}, {5, greatest - 6, greatest - 1}, {5, greatest - 5, greatest}, {5, greatest - 4, greatest},
		{0, greatest, greatest}, {1, greatest, greatest}, {greatest, 0, greatest}, {greatest, 1, greatest}, {greatest, greatest, greatest}, {1 << 63, 1 << 63, greatest},
	} {
		c := &Clock{}
		c.Set(1, 2, x.at)
		if c.Shift(x.by); !slices.Equal(c.All(), []Alarm{{x.want, 1, 2}}) {
			t.Errorf("%d by %d: %v; want %d", x.at, x.by, c.All(), x.want)
		}
	}
}

// Times that were apart are one at the greatest time: then VM and seat say which comes first.
func TestShiftBringsTogether(t *testing.T) {
	c := &Clock{}
	c.Set(0, 1, 30)
	c.Set(0, 0, 20)
	c.Set(5, 0, 10)
	c.Set(4, 0, 1)
	c.Shift(greatest - 5)
	want := []Alarm{{greatest - 4, 4, 0}, {greatest, 0, 0}, {greatest, 0, 1}, {greatest, 5, 0}}
	if l := c.All(); !slices.Equal(l, want) {
		t.Errorf("All = %v; want %v", l, want)
	}
	if l := c.Due(greatest - 1); !slices.Equal(l, want[:1]) {
		t.Errorf("Due = %v; want %v", l, want[:1])
	}
	if l := c.Due(greatest); !slices.Equal(l, want[1:]) {
		t.Errorf("Due = %v; want %v", l, want[1:])
	}
}

func TestTwin(t *testing.T) {
	acts := []func(c *Clock){
		func(c *Clock) { c.Set(3, 0, 1) },
		func(c *Clock) { c.Drop(3, 0) },
		func(c *Clock) { c.DropVM(3) },
		func(c *Clock) { c.Due(95) },
		func(c *Clock) { c.Shift(9) },
	}
	for i, act := range acts {
		c, m := filled(t)
		d := c.Twin()
		act(c)
		hold(t, d, m)
		if slices.Equal(c.All(), m.all()) {
			t.Errorf("act %d has done nothing", i)
		}
		c, m = filled(t)
		d = c.Twin()
		act(d)
		hold(t, c, m)
		if !slices.Equal((&Clock{}).Twin().All(), nil) {
			t.Error("a twin of an empty clock has alarms")
		}
	}
}

// What was told is the caller's: it may be written over and appended to, and what happens to the clock doesn't reach it.
func TestWhatWasToldIsNotTheClocks(t *testing.T) {
	c, m := filled(t)
	for _, l := range [][]Alarm{c.All(), c.All()[:4], c.Twin().Due(greatest)} {
		kept := slices.Clone(l)
		c.Shift(1)
		c.Set(0, 0, 1)
		c.DropVM(5)
		if !slices.Equal(l, kept) {
			t.Fatalf("what was told has changed: %v; was %v", l, kept)
		}
		c, m = filled(t)
	}
	l := c.All()
	_ = append(l[:2], Alarm{At: 1}, Alarm{At: 2})
	for i := range l {
		l[i] = Alarm{}
	}
	hold(t, c, m)
	l = c.Due(95)
	m.due(95)
	for i := range l {
		l[i] = Alarm{At: 1, VM: 2}
	}
	hold(t, c, m)
}

func TestNilClock(t *testing.T) {
	var c *Clock
	for _, vm := range append([]int{0, 5}, noVMs...) {
		for _, seat := range append([]int{0, 2}, noSeats...) {
			if e := c.Set(vm, seat, 1); e != api.ErrNone {
				t.Errorf("Set(%d, %d) = %d", vm, seat, e)
			}
			c.Drop(vm, seat)
		}
		c.DropVM(vm)
	}
	c.Shift(1)
	if l := c.All(); len(l) != 0 {
		t.Errorf("All = %v", l)
	}
	if l := c.Due(greatest); len(l) != 0 {
		t.Errorf("Due = %v", l)
	}
	if c.Twin() != nil {
		t.Error("a twin of a nil clock")
	}
}

// someTime: most are small and meet one another, some are at the end of all times.
func someTime(r *rand.Rand) uint64 {
	switch r.Intn(12) {
	case 0:
		return greatest - uint64(r.Intn(3))
	case 1:
		return r.Uint64()
	}
	return uint64(r.Intn(20))
}

func TestManySteps(t *testing.T) {
	r := rand.New(rand.NewSource(10))
	for range 40 {
		c, m := &Clock{}, table{}
		for step := range 150 {
			vm, seat := r.Intn(8)-1, r.Intn(5)-1
			switch r.Intn(12) {
			case 0:
				c.Drop(vm, seat)
				m.drop(vm, seat)
			case 1:
				if r.Intn(3) == 0 {
					c.DropVM(vm)
					m.dropVM(vm)
				}
			case 2:
				now := someTime(r)
				want := m.due(now)
				if l := c.Due(now); !slices.Equal(l, want) {
					t.Fatalf("step %d: Due(%d) = %v; want %v", step, now, l, want)
				}
			case 3:
				by := uint64(r.Intn(4))
				if r.Intn(20) == 0 {
					by = someTime(r)
				}
				c.Shift(by)
				m.shift(by)
			case 4:
				c = c.Twin()
			default:
				at := someTime(r)
				want := m.set(vm, seat, at)
				if e := c.Set(vm, seat, at); e != want {
					t.Fatalf("step %d: Set(%d, %d, %d) = %d; want %d", step, vm, seat, at, e, want)
				}
			}
			hold(t, c, m)
		}
	}
}
