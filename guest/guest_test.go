package guest

import (
	"fmt"
	"math"
	"math/big"
	"math/rand"
	"slices"
	"strings"
	"testing"

	"hermitcrab/alarm"
	"hermitcrab/api"
	"hermitcrab/lease"
	"hermitcrab/owner"
	"hermitcrab/table"
	"hermitcrab/turn"
)

const greatest = math.MaxUint64

var (
	noVMs    = []int{-1, 6, -2, -6, 7, 12, 255, 256, 1 << 32, 1<<32 + 1, math.MaxInt, math.MinInt}
	noSeats  = []int{-1, 3, -2, -3, 4, 6, 255, 256, 1 << 32, 1<<32 + 1, math.MaxInt, math.MinInt}
	seatless = []int{0, -1, 4, -2, -3, 5, 255, 256, 1 << 32, 1<<32 + 1, math.MaxInt, math.MinInt}
	noQuotas = []int{0, -1, 33, -2, -32, 34, 64, 255, 256, 1 << 32, 1<<32 + 1, math.MaxInt, math.MinInt}
)

// all tells each field of a VM; lists that are nil look like empty ones.
func all(v VM) string {
	return fmt.Sprintf("%+v", v)
}

// whole tells each field of a state, what its pointers lead to, too.
func whole(s *State) string {
	if s == nil {
		return "nil"
	}
	var b strings.Builder
	fmt.Fprintf(&b, "%v %v %+v %+v %v %v ", s.Form, s.Now, s.VMs, s.Leases, s.Clock.All(), s.Turns)
	if s.Owners != nil {
		fmt.Fprintf(&b, "%+v", s.Owners.L)
	}
	return b.String()
}

// seen tells what SameVM holds against one another.
func seen(v VM) string {
	return fmt.Sprintf("%v %v %v %+v %v %v", v.On, v.Quota, v.Bells, v.Seats, v.Keys, v.Disk)
}

// known tells what Same does: of frames that aren't guests', that they are there.
func known(s *State) string {
	var b strings.Builder
	for _, v := range s.VMs {
		fmt.Fprintf(&b, "%s\n", seen(v))
	}
	fmt.Fprintf(&b, "%+v\n%v\n", s.Leases, s.Turns)
	for _, r := range s.Owners.L {
		if r.Kind == 3 {
			fmt.Fprintf(&b, "page %d of VM %d, %d times; ", r.Page, r.VM, r.Shares)
		} else {
			b.WriteString("no page; ")
		}
	}
	return b.String()
}

// aSeat: one whose fields are all something, and each another thing.
func aSeat(salt uint64) api.Seat {
	x := api.Seat{PC: salt + 20, Base: salt + 21, Vec: salt + 22, EPC: salt + 23, Cause: salt + 24, Addr: salt + 25, Open: salt%2 == 1, State: byte(salt % 3), Pend: uint32(salt%200) + 5, Mask: uint32(salt%200) + 9}
	for i := range x.R {
		x.R[i] = salt + uint64(i)
	}
	return x
}

// aVM: one that is on, with something in each of its fields.
func aVM(t *testing.T, seats, quota int, salt uint64) VM {
	t.Helper()
	v, e := Make(seats, quota)
	if e != api.OK {
		t.Fatalf("Make(%d, %d) = %d", seats, quota, e)
	}
	for n := range v.Seats {
		v.Seats[n] = aSeat(1000*salt + uint64(n))
	}
	v.Table = table.Table{Form: table.V1 + int(salt%2), Frames: []int{int(salt), int(salt) + 1, int(salt) + 2, int(salt) + 3, int(salt) + 4}}
	v.Late = 7 * salt
	v.Keys = []byte{byte(salt), 65, 66, byte(salt)}
	for i, sector := range v.Disk {
		for at := range sector {
			sector[at] = byte(int(salt) + 3*i + at)
		}
	}
	v.Bells = uint32(salt)*5 + 1
	return v
}

func ok(t *testing.T, what string, e api.Errno) {
	t.Helper()
	if e != api.OK {
		t.Fatalf("%s: %d", what, e)
	}
}

// filled: a state with VMs 0, 1, 3 and 5 on, of one to three seats, 4 off, but (by hand) with all its lists; frames of each kind, leases, alarms, turns.
func filled(t *testing.T) *State {
	t.Helper()
	s := New(table.V1, 20)
	s.Now = 50
	s.VMs[0] = aVM(t, 2, 32, 2)
	s.VMs[1] = aVM(t, 3, 1, 3)
	s.VMs[3] = aVM(t, 1, 9, 5)
	s.VMs[5] = aVM(t, 3, 4, 40)
	s.VMs[4] = aVM(t, 2, 5, 9)
	s.VMs[4].On = false
	ok(t, "Keep", s.Owners.Keep(0, -1))
	for frame := 2; frame < 7; frame++ {
		ok(t, "Keep", s.Owners.Keep(frame, 0))
		ok(t, "Keep", s.Owners.Keep(frame+5, 1))
	}
	for page := range 4 {
		ok(t, "Donate", s.Owners.Donate(12+page, page/2*5, page))
	}
	ok(t, "Share", s.Owners.Share(13, 0))
	for n := range 3 {
		l, m, e := s.Leases.Offer(0, 1+n, 1+2*n, n%2 == 0)
		if m != n || e != api.OK {
			t.Fatalf("Offer: %d, %d", m, e)
		}
		s.Leases = l
	}
	l, e := s.Leases.Accept(1, 3, 31)
	ok(t, "Accept", e)
	s.Leases = l
	ok(t, "Set", s.Clock.Set(0, 1, 70))
	ok(t, "Set", s.Clock.Set(5, 2, 60))
	for n := range s.Turns {
		s.Turns[n] = n % 4
	}
	return s
}

// vmChange is what may be done to one field of a VM; kept: SameVM doesn't ask for it.
type vmChange struct {
	what string
	do   func(v *VM)
	kept bool
}

// changes: what may be done to a VM, field by field, byte by byte where that is little.
func changes(v VM) []vmChange {
	l := []vmChange{
		{what: "On", do: func(v *VM) { v.On = !v.On }},
		{what: "one more quota", do: func(v *VM) { v.Quota++ }},
		{what: "one less quota", do: func(v *VM) { v.Quota-- }},
		{what: "much more quota", do: func(v *VM) { v.Quota += 1 << 32 }},
		{what: "Late", do: func(v *VM) { v.Late++ }, kept: true},
		{what: "much later", do: func(v *VM) { v.Late += 1 << 63 }, kept: true},
		{what: "Table's form", do: func(v *VM) { v.Table.Form++ }, kept: true},
		{what: "one frame more", do: func(v *VM) { v.Table.Frames = append(v.Table.Frames, 9) }, kept: true},
	}
	for bit := range 32 {
		l = append(l, vmChange{what: fmt.Sprint("Bells ", bit), do: func(v *VM) { v.Bells ^= 1 << bit }})
	}
	for i := range v.Table.Frames {
		l = append(l, vmChange{what: fmt.Sprint("Frames ", i), do: func(v *VM) { v.Table.Frames[i]++ }, kept: true})
	}
	if len(v.Table.Frames) > 0 {
		l = append(l, vmChange{what: "no frames", do: func(v *VM) { v.Table.Frames = nil }, kept: true})
	}
	l = append(l, seatChanges(v)...)
	l = append(l, keyChanges(v)...)
	return append(l, diskChanges(v)...)
}

func seatChanges(v VM) []vmChange {
	l := []vmChange{{what: "one more seat", do: func(v *VM) { v.Seats = append(v.Seats, api.Seat{}) }}}
	for n := range v.Seats {
		for i := range 16 {
			l = append(l, vmChange{what: fmt.Sprint("seat ", n, " R ", i), do: func(v *VM) { v.Seats[n].R[i] ^= 1 << (4 * i) }})
		}
		for _, c := range []struct {
			field string
			do    func(x *api.Seat)
		}{
			{"PC", func(x *api.Seat) { x.PC++ }},
			{"Base", func(x *api.Seat) { x.Base++ }},
			{"Vec", func(x *api.Seat) { x.Vec++ }},
			{"EPC", func(x *api.Seat) { x.EPC++ }},
			{"Cause", func(x *api.Seat) { x.Cause += 1 << 63 }},
			{"Addr", func(x *api.Seat) { x.Addr++ }},
			{"Open", func(x *api.Seat) { x.Open = !x.Open }},
			{"State", func(x *api.Seat) { x.State++ }},
			{"Pend", func(x *api.Seat) { x.Pend ^= 1 << 7 }},
			{"Mask", func(x *api.Seat) { x.Mask ^= 1 }},
		} {
			l = append(l, vmChange{what: fmt.Sprint("seat ", n, " ", c.field), do: func(v *VM) { c.do(&v.Seats[n]) }})
		}
		l = append(l, vmChange{what: fmt.Sprint("without seat ", n), do: func(v *VM) { v.Seats = slices.Delete(slices.Clone(v.Seats), n, n+1) }})
		if n > 0 {
			l = append(l, vmChange{what: fmt.Sprint("seats swapped at ", n), do: func(v *VM) { v.Seats[n], v.Seats[n-1] = v.Seats[n-1], v.Seats[n] }})
		}
	}
	return l
}

func keyChanges(v VM) []vmChange {
	l := []vmChange{
		{what: "one more key", do: func(v *VM) { v.Keys = append(v.Keys, 0) }},
		{what: "one more key ahead", do: func(v *VM) { v.Keys = slices.Insert(slices.Clone(v.Keys), 0, 0) }},
	}
	for i := range v.Keys {
		l = append(l, vmChange{what: fmt.Sprint("key ", i), do: func(v *VM) { v.Keys[i] ^= 1 << i }},
			vmChange{what: fmt.Sprint("without key ", i), do: func(v *VM) { v.Keys = slices.Delete(slices.Clone(v.Keys), i, i+1) }})
		if i > 0 && v.Keys[i] != v.Keys[i-1] {
			l = append(l, vmChange{what: fmt.Sprint("keys swapped at ", i), do: func(v *VM) { v.Keys[i], v.Keys[i-1] = v.Keys[i-1], v.Keys[i] }})
		}
	}
	if len(v.Keys) > 0 {
		l = append(l, vmChange{what: "no keys", do: func(v *VM) { v.Keys = nil }})
	}
	return l
}

func diskChanges(v VM) []vmChange {
	var l []vmChange
	for i, sector := range v.Disk {
		l = append(l, vmChange{what: fmt.Sprint("sector ", i, " longer"), do: func(v *VM) { v.Disk[i] = append(v.Disk[i], 0) }})
		if len(sector) == 0 {
			continue
		}
		for _, at := range []int{0, 1, 127, 128, len(sector) - 1} {
			l = append(l, vmChange{what: fmt.Sprint("sector ", i, " byte ", at), do: func(v *VM) { v.Disk[i][at] ^= 128 }})
		}
		l = append(l,
			vmChange{what: fmt.Sprint("sector ", i, " shorter"), do: func(v *VM) { v.Disk[i] = v.Disk[i][:len(v.Disk[i])-1] }},
			vmChange{what: fmt.Sprint("no sector ", i), do: func(v *VM) { v.Disk[i] = nil }})
		if i > 0 && !slices.Equal(sector, v.Disk[i-1]) {
			l = append(l, vmChange{what: fmt.Sprint("sectors swapped at ", i), do: func(v *VM) { v.Disk[i], v.Disk[i-1] = v.Disk[i-1], v.Disk[i] }})
		}
	}
	return l
}

// change is what may be done to one part of a state; kept: Same doesn't ask for it.
type change struct {
	what string
	do   func(s *State)
	kept bool
}

// stateChanges: of each VM, lease, turn, frame, of the alarms and the times.
func stateChanges(s *State) []change {
	l := []change{
		{what: "Form", do: func(s *State) { s.Form++ }, kept: true},
		{what: "Now", do: func(s *State) { s.Now++ }, kept: true},
		{what: "a first alarm", do: func(s *State) { s.Clock.Set(1, 1, 5) }, kept: true},
		{what: "another alarm", do: func(s *State) { s.Clock.Set(5, 2, 61) }, kept: true},
		{what: "no alarm", do: func(s *State) { s.Clock.Drop(0, 1) }, kept: true},
		{what: "all alarms later", do: func(s *State) { s.Clock.Shift(1) }, kept: true},
		{what: "due", do: func(s *State) { s.Clock.Due(greatest) }, kept: true},
		{what: "another clock", do: func(s *State) { s.Clock = &alarm.Clock{} }, kept: true},
		{what: "no clock", do: func(s *State) { s.Clock = nil }, kept: true},
	}
	for n, v := range s.VMs {
		for _, c := range changes(v) {
			l = append(l, change{what: fmt.Sprint("VM ", n, ": ", c.what), do: func(s *State) { c.do(&s.VMs[n]) }, kept: c.kept})
		}
	}
	for n := range s.Turns {
		l = append(l, change{what: fmt.Sprint("turn ", n), do: func(s *State) { s.Turns[n]++ }})
	}
	l = append(l, leaseChanges(s)...)
	return append(l, ownerChanges(s)...)
}

func leaseChanges(s *State) []change {
	var l []change
	for n := range s.Leases {
		for _, c := range []struct {
			field string
			do    func(x *lease.Lease)
		}{
			{"On", func(x *lease.Lease) { x.On = !x.On }},
			{"From", func(x *lease.Lease) { x.From++ }},
			{"Page", func(x *lease.Lease) { x.Page++ }},
			{"To", func(x *lease.Lease) { x.To++ }},
			{"Write", func(x *lease.Lease) { x.Write = !x.Write }},
			{"At", func(x *lease.Lease) { x.At++ }},
		} {
			l = append(l, change{what: fmt.Sprint("lease ", n, " ", c.field), do: func(s *State) { c.do(&s.Leases[n]) }})
		}
	}
	return l
}

func ownerChanges(s *State) []change {
	l := []change{
		{what: "one frame more", do: func(s *State) { s.Owners.L = append(s.Owners.L, owner.Row{}) }},
		{what: "one frame less", do: func(s *State) { s.Owners.L = s.Owners.L[:len(s.Owners.L)-1] }},
		{what: "no frames", do: func(s *State) { s.Owners.L = nil }},
	}
	for frame, r := range s.Owners.L {
		page := r.Kind == 3
		for kind := range byte(5) {
			if kind != r.Kind {
				l = append(l, change{what: fmt.Sprint("frame ", frame, " of kind ", kind), do: func(s *State) { s.Owners.L[frame].Kind = kind }, kept: !page && kind != 3})
			}
		}
		l = append(l,
			change{what: fmt.Sprint("frame ", frame, " of VM"), do: func(s *State) { s.Owners.L[frame].VM++ }, kept: !page},
			change{what: fmt.Sprint("frame ", frame, " page"), do: func(s *State) { s.Owners.L[frame].Page++ }, kept: !page},
			change{what: fmt.Sprint("frame ", frame, " shares"), do: func(s *State) { s.Owners.L[frame].Shares++ }, kept: !page})
	}
	return l
}

func TestExample(t *testing.T) {
	v, e := Make(1, 4)
	if e != api.OK || len(v.Seats) != 1 || v.Seats[0].State != api.Ready || v.Seats[0].PC != 0 {
		t.Fatal(v.Seats, e)
	}
}

// holdBlank: Sectors of Page noughts, of which none shares anything with another one.
func holdBlank(t *testing.T, disk [4][]byte) {
	t.Helper()
	for i, sector := range disk {
		if len(sector) != 256 || slices.ContainsFunc(sector, func(b byte) bool { return b != 0 }) {
			t.Fatalf("sector %d: %v", i, sector)
		}
	}
	for i := range disk {
		for at := range disk[i] {
			disk[i][at] = byte(i + 1)
		}
	}
	for _, sector := range disk {
		_ = append(sector, 99, 99, 99)
	}
	for i, sector := range disk {
		if slices.ContainsFunc(sector, func(b byte) bool { return b != byte(i+1) }) {
			t.Fatalf("sector %d has what was written into another one: %v", i, sector)
		}
	}
}

func TestBlank(t *testing.T) {
	if api.Sectors != 4 || api.Page != 256 {
		t.Fatal(api.Sectors, api.Page)
	}
	holdBlank(t, Blank())
	// The first one's bytes were written over: another one is noughts again.
	holdBlank(t, Blank())
}

func TestMake(t *testing.T) {
	for seats := 1; seats <= 3; seats++ {
		for quota := 1; quota <= 32; quota++ {
			v, e := Make(seats, quota)
			if e != api.OK {
				t.Fatalf("Make(%d, %d) = %d", seats, quota, e)
			}
			if want := (VM{On: true, Seats: make([]api.Seat, seats), Quota: quota, Disk: Blank()}); all(v) != all(want) {
				t.Fatalf("Make(%d, %d) = %+v", seats, quota, v)
			}
			for n := range v.Seats {
				if v.Seats[n].State != api.Ready {
					t.Fatalf("Make(%d, %d): seat %d is %d", seats, quota, n, v.Seats[n].State)
				}
				v.Seats[n] = aSeat(uint64(n))
			}
			holdBlank(t, v.Disk)
		}
	}
}

func TestMakeOfNone(t *testing.T) {
	refused := func(seats, quota int) {
		t.Helper()
		if v, e := Make(seats, quota); e != api.ErrArg || all(v) != all(VM{}) {
			t.Errorf("Make(%d, %d) = %+v, %d", seats, quota, v, e)
		}
	}
	for _, seats := range seatless {
		for quota := 1; quota <= 32; quota++ {
			refused(seats, quota)
		}
		for _, quota := range noQuotas {
			refused(seats, quota)
		}
	}
	for seats := 1; seats <= 3; seats++ {
		for _, quota := range noQuotas {
			refused(seats, quota)
		}
	}
}

// Of two VMs, one a copy of the other: what is done to the one is seen in it alone.
func TestCopy(t *testing.T) {
	full := func() VM { return aVM(t, 3, 32, 6) }
	off := func() VM {
		v := full()
		v.On, v.Keys = false, nil
		return v
	}
	for _, fresh := range []func() VM{full, off, func() VM { return VM{} }, func() VM { return aVM(t, 1, 1, 0) }} {
		want := all(fresh())
		for _, c := range changes(fresh()) {
			v := fresh()
			twin := Copy(v)
			if all(twin) != want || all(v) != want {
				t.Fatalf("Copy = %s; want %s", all(twin), want)
			}
			c.do(&twin)
			if all(v) != want || all(twin) == want {
				t.Fatalf("%s of a copy: %s, and what it was made of %s", c.what, all(twin), all(v))
			}
			twin = Copy(v)
			c.do(&v)
			if all(twin) != want || all(v) == want {
				t.Fatalf("%s: %s, and its copy %s", c.what, all(v), all(twin))
			}
		}
	}
}

// What lies behind a list that was handed in is nobody's to write over, and no list of a copy grows into another one.
func TestCopyAppends(t *testing.T) {
	v := aVM(t, 2, 5, 8)
	keys := [4]byte{1, 2, 3, 4}
	v.Keys = keys[:2]
	disk := make([]byte, 1024)
	for i := range v.Disk {
		v.Disk[i] = disk[256*i : 256*i+256]
		v.Disk[i][0] = byte(i + 1)
	}
	seats := make([]api.Seat, 3)
	v.Seats = seats[:2]
	frames := []int{5, 6, 7, 8, 9, 10}
	v.Table.Frames = frames[:5]
	twin := Copy(v)
	twin.Keys = append(twin.Keys, 77)
	twin.Seats = append(twin.Seats, aSeat(77))
	twin.Table.Frames = append(twin.Table.Frames, 77)
	for i := range twin.Disk {
		twin.Disk[i] = append(twin.Disk[i], 77)
	}
	if keys != [4]byte{1, 2, 3, 4} || seats[2] != (api.Seat{}) || frames[5] != 10 {
		t.Error("what lies behind a list is another one:", keys, seats[2], frames)
	}
	for i := range 4 {
		if v.Disk[i][0] != byte(i+1) || twin.Disk[i][0] != byte(i+1) {
			t.Error("sector", i, "begins with", v.Disk[i][0], "its copy with", twin.Disk[i][0])
		}
	}
}

func TestNew(t *testing.T) {
	for _, form := range []int{table.V1, table.V2, 0, 3, -1, math.MaxInt, math.MinInt} {
		for _, c := range [][2]int{{0, 0}, {1, 1}, {20, 20}, {511, 511}, {512, 512}, {513, 512}, {math.MaxInt, 512}, {-1, 0}, {math.MinInt, 0}} {
			s := New(form, c[0])
			if s == nil || s.Owners == nil || s.Clock == nil {
				t.Fatalf("New(%d, %d) = %v", form, c[0], s)
			}
			want := &State{Form: form, Owners: &owner.Book{L: make([]owner.Row, c[1])}, Clock: &alarm.Clock{}}
			if whole(s) != whole(want) {
				t.Fatalf("New(%d, %d) = %s", form, c[0], whole(s))
			}
			for vm := range s.VMs {
				if s.There(vm) {
					t.Fatalf("New(%d, %d): VM %d is on", form, c[0], vm)
				}
			}
		}
	}
}

// Two new ones have nothing in common, and can be used at once.
func TestNewAlone(t *testing.T) {
	a, b := New(table.V1, 4), New(table.V1, 4)
	ok(t, "Donate", a.Owners.Donate(0, 5, 31))
	ok(t, "Set", a.Clock.Set(5, 2, 1))
	if whole(b) != whole(New(table.V1, 4)) || len(a.Clock.All()) != 1 || a.Owners.Count(owner.Guest, 5) != 1 {
		t.Error(whole(a), whole(b))
	}
}

// Of two states, one a twin of the other: what is done to the one is seen in it alone.
func TestTwin(t *testing.T) {
	s := filled(t)
	want := whole(s)
	for _, c := range stateChanges(s) {
		twin := s.Twin()
		if whole(twin) != want {
			t.Fatalf("Twin = %s; want %s", whole(twin), want)
		}
		c.do(twin)
		if whole(s) != want {
			t.Fatalf("%s of a twin is done to what it was made of", c.what)
		}
		if whole(twin) == want {
			t.Fatalf("%s isn't done", c.what)
		}
		first := filled(t)
		twin = first.Twin()
		c.do(first)
		if whole(twin) != want {
			t.Fatalf("%s is done to a twin", c.what)
		}
	}
}

func TestTwinOfLittle(t *testing.T) {
	for _, s := range []*State{New(table.V2, 0), New(table.V2, 512), {}, {Form: 9, Now: greatest}, {Clock: &alarm.Clock{}}} {
		twin := s.Twin()
		if twin == nil || twin == s || whole(twin) != whole(s) || !Same(s, twin) {
			t.Errorf("Twin of %s = %s", whole(s), whole(twin))
		}
		if twin.Owners != nil && twin.Owners == s.Owners || twin.Clock != nil && twin.Clock == s.Clock {
			t.Errorf("Twin of %s has its books", whole(s))
		}
		if (twin.Owners == nil) != (s.Owners == nil) || (twin.Clock == nil) != (s.Clock == nil) {
			t.Errorf("Twin of %s: %v, %v", whole(s), twin.Owners, twin.Clock)
		}
	}
}

// holdTold: is all that is told of a state's VMs as the chapter says?
func holdTold(t *testing.T, s *State) {
	t.Helper()
	was := whole(s)
	ready := s.Ready()
	for vm, v := range s.VMs {
		if s.There(vm) != v.On {
			t.Fatalf("There(%d) = %v", vm, s.There(vm))
		}
		if got := s.Time(vm); v.On && got != less(s.Now, v.Late) {
			t.Fatalf("Time(%d) = %d; Now %d, Late %d", vm, got, s.Now, v.Late)
		}
		for n := range 3 {
			has := v.On && n < len(v.Seats)
			x := s.Seat(vm, n)
			if has != (x != nil) || has && x != &s.VMs[vm].Seats[n] {
				t.Fatalf("Seat(%d, %d) = %v of %d seats, On %v", vm, n, x, len(v.Seats), v.On)
			}
			if want := has && v.Seats[n].State == 0; ready[3*vm+n] != want {
				t.Fatalf("Ready of seat %d of VM %d = %v", n, vm, ready[3*vm+n])
			}
		}
		for _, n := range noSeats {
			if x := s.Seat(vm, n); x != nil {
				t.Fatalf("Seat(%d, %d) = %v", vm, n, x)
			}
		}
		holdBells(t, s, vm)
	}
	for _, vm := range noVMs {
		if s.There(vm) || s.Time(vm) != 0 {
			t.Fatalf("of VM %d: %v, %d", vm, s.There(vm), s.Time(vm))
		}
		for _, n := range append([]int{0, 1, 2}, noSeats...) {
			if x := s.Seat(vm, n); x != nil {
				t.Fatalf("Seat(%d, %d) = %v", vm, n, x)
			}
		}
	}
	if whole(s) != was {
		t.Fatal("what was asked has changed the state")
	}
}

// holdBells: with whom is a VM joined?
func holdBells(t *testing.T, s *State, vm int) {
	t.Helper()
	bells := fmt.Sprintf("%032b", s.VMs[vm].Bells)
	for b, v := range s.VMs {
		want := s.VMs[vm].On && v.On && bells[31-b] == '1'
		if got := s.Joined(vm, b); got != want {
			t.Fatalf("Joined(%d, %d) = %v; Bells %s", vm, b, got, bells)
		}
	}
	for _, no := range append([]int{31, 32, 63, 64}, noVMs...) {
		if s.Joined(vm, no) || s.Joined(no, vm) || s.Joined(no, no) {
			t.Fatalf("VMs %d and %d are joined; Bells %s", vm, no, bells)
		}
	}
}

// less: in long numbers; what is below 0 is 2^64 more.
func less(now, late uint64) uint64 {
	d := new(big.Int).Sub(new(big.Int).SetUint64(now), new(big.Int).SetUint64(late))
	if d.Sign() < 0 {
		d.Add(d, new(big.Int).Lsh(big.NewInt(1), 64))
	}
	return d.Uint64()
}

func TestTold(t *testing.T) {
	holdTold(t, New(table.V1, 0))
	holdTold(t, New(table.V2, 30))
	holdTold(t, filled(t))
	holdTold(t, &State{})
}

func TestToldAtRandom(t *testing.T) {
	r := rand.New(rand.NewSource(15))
	times := []uint64{0, 1, 2, 100, 1 << 32, 1<<63 - 1, 1 << 63, greatest - 1, greatest}
	for range 600 {
		s := New(1+r.Intn(2), r.Intn(6))
		s.Now = times[r.Intn(len(times))]
		for vm := range s.VMs {
			if r.Intn(4) == 0 {
				continue
			}
			v, e := Make(1+r.Intn(3), 1+r.Intn(32))
			ok(t, "Make", e)
			for n := range v.Seats {
				v.Seats[n].State = []byte{0, 1, 2, 0, 1, 2, 3, 255}[r.Intn(8)]
			}
			v.Late, v.Bells = times[r.Intn(len(times))], r.Uint32()
			v.On = r.Intn(4) > 0
			s.VMs[vm] = v
		}
		holdTold(t, s)
	}
}

func TestTime(t *testing.T) {
	s := New(table.V1, 1)
	for _, c := range [][3]uint64{
		{0, 0, 0}, {5, 0, 5}, {5, 5, 0}, {10, 3, 7}, {2, 5, greatest - 2}, {0, 1, greatest}, {greatest, 0, greatest}, {greatest, greatest, 0}, {0, greatest, 1}, {1 << 62, 1 << 63, 3 << 62},
	} {
		for vm := range 6 {
			s.VMs[vm] = VM{On: true, Late: c[1]}
			s.Now = c[0]
			if got := s.Time(vm); got != c[2] {
				t.Errorf("Time(%d) = %d of Now %d, Late %d; want %d", vm, got, c[0], c[1], c[2])
			}
		}
	}
}

// A seat that is answered is the state's own.
func TestSeatIsTheStates(t *testing.T) {
	s := filled(t)
	for _, at := range [][2]int{{0, 0}, {0, 1}, {1, 2}, {3, 0}, {5, 0}, {5, 2}} {
		s.Seat(at[0], at[1]).PC = 4242
		if s.VMs[at[0]].Seats[at[1]].PC != 4242 || s.Seat(at[0], at[1]).PC != 4242 {
			t.Errorf("seat %d of VM %d: %v", at[1], at[0], s.VMs[at[0]].Seats[at[1]])
		}
	}
	for _, at := range [][2]int{{0, 2}, {3, 1}, {5, 3}, {2, 0}, {4, 0}, {6, 0}, {-1, 0}} {
		if x := s.Seat(at[0], at[1]); x != nil {
			t.Errorf("Seat(%d, %d) = %v", at[0], at[1], x)
		}
	}
}

func TestReady(t *testing.T) {
	if turn.Seats != 18 {
		t.Fatal(turn.Seats)
	}
	for vm := range 6 {
		for n := range 3 {
			s := New(table.V1, 1)
			v, e := Make(3, 1)
			ok(t, "Make", e)
			for i := range v.Seats {
				v.Seats[i].State = byte(1 + i%2)
			}
			v.Seats[n].State = api.Ready
			s.VMs[vm] = v
			var want [18]bool
			want[3*vm+n] = true
			if got := s.Ready(); got != want {
				t.Errorf("Ready = %v; want %v", got, want)
			}
			s.VMs[vm].On = false
			if got := s.Ready(); got != [18]bool{} {
				t.Errorf("Ready = %v of VMs that are off", got)
			}
		}
	}
}

// Seats by hand, more than a VM may have, have no number, and take no other one's.
func TestReadyOfTooMany(t *testing.T) {
	s := New(table.V1, 1)
	s.VMs[0] = VM{On: true, Seats: make([]api.Seat, 7)}
	s.VMs[5] = VM{On: true, Seats: make([]api.Seat, 4)}
	if got, want := s.Ready(), [18]bool{0: true, 1: true, 2: true, 15: true, 16: true, 17: true}; got != want {
		t.Errorf("Ready = %v; want %v", got, want)
	}
}

func TestJoined(t *testing.T) {
	for a := range 6 {
		for b := range 6 {
			s := New(table.V1, 1)
			for vm := range s.VMs {
				s.VMs[vm].On = true
			}
			s.VMs[a].Bells = 1 << b
			for x := range 6 {
				for y := range 6 {
					if got, want := s.Joined(x, y), x == a && y == b; got != want {
						t.Errorf("Joined(%d, %d) = %v, where %d has %d", x, y, got, a, b)
					}
				}
			}
			for _, off := range []int{a, b} {
				s.VMs[off].On = false
				if s.Joined(a, b) {
					t.Errorf("Joined(%d, %d), where %d is off", a, b, off)
				}
				s.VMs[off].On = true
			}
		}
	}
	// Bits for which there is no VM join nobody.
	s := New(table.V1, 1)
	for vm := range s.VMs {
		s.VMs[vm] = VM{On: true, Bells: math.MaxUint32 &^ 63}
	}
	for a := -70; a <= 70; a++ {
		for b := -70; b <= 70; b++ {
			if s.Joined(a, b) {
				t.Fatalf("Joined(%d, %d)", a, b)
			}
		}
	}
}

func TestSameVM(t *testing.T) {
	off := aVM(t, 2, 7, 11)
	off.On = false
	for _, v := range []VM{{}, aVM(t, 1, 1, 0), aVM(t, 2, 32, 1), aVM(t, 3, 9, 77), off} {
		want := all(v)
		if !SameVM(v, v) || !SameVM(v, Copy(v)) || !SameVM(Copy(v), v) {
			t.Errorf("it isn't like itself: %s", want)
		}
		for _, c := range changes(v) {
			other := Copy(v)
			c.do(&other)
			otherWas := all(other)
			if SameVM(v, other) != c.kept || SameVM(other, v) != c.kept || !SameVM(other, Copy(other)) {
				t.Errorf("%s: %v, %v; want %v", c.what, SameVM(v, other), SameVM(other, v), c.kept)
			}
			if all(v) != want || all(other) != otherWas {
				t.Fatalf("%s: what was asked has changed a VM", c.what)
			}
		}
	}
}

// Each byte of a disk.
func TestSameVMOfDisks(t *testing.T) {
	v := aVM(t, 1, 4, 9)
	for i := range 4 {
		for at := range 256 {
			other := Copy(v)
			other.Disk[i][at]++
			if SameVM(v, other) || SameVM(other, v) {
				t.Fatalf("byte %d of sector %d: the same", at, i)
			}
		}
	}
}

// Lists that are nil are as empty ones are.
func TestSameVMOfNoLists(t *testing.T) {
	none := VM{On: true, Quota: 3, Bells: 2}
	empty := none
	empty.Seats, empty.Keys, empty.Table.Frames = []api.Seat{}, []byte{}, []int{}
	for i := range empty.Disk {
		empty.Disk[i] = make([]byte, 0, 8)
	}
	if !SameVM(none, empty) || !SameVM(empty, none) || !SameVM(Copy(empty), none) {
		t.Error("nil lists and empty ones differ")
	}
	blank := none
	blank.Disk = Blank()
	if SameVM(none, blank) || SameVM(blank, none) {
		t.Error("no disk is as a blank one is")
	}
}

func TestSame(t *testing.T) {
	for _, s := range []*State{filled(t), withPages(t)} {
		want := whole(s)
		for _, c := range stateChanges(s) {
			other := s.Twin()
			if !Same(s, other) || !Same(other, s) || !Same(s, s) {
				t.Fatal("a twin isn't the same")
			}
			c.do(other)
			otherWas := whole(other)
			if Same(s, other) != c.kept || Same(other, s) != c.kept || !Same(other, other.Twin()) {
				t.Errorf("%s: %v, %v; want %v", c.what, Same(s, other), Same(other, s), c.kept)
			}
			if whole(s) != want || whole(other) != otherWas {
				t.Fatalf("%s: what was asked has changed a state", c.what)
			}
		}
	}
}

// withPages: no VM is on, each frame is a page or a frame of tables.
func withPages(t *testing.T) *State {
	t.Helper()
	s := New(table.V2, 8)
	for frame := range 8 {
		if frame%3 == 0 {
			ok(t, "Keep", s.Owners.Keep(frame, frame%6))
		} else {
			ok(t, "Donate", s.Owners.Donate(frame, frame%6, 4*frame))
		}
	}
	return s
}

// Each two rows of a frame: of two kinds that aren't Guest it may be, whatever else stands there.
func TestSameOfRows(t *testing.T) {
	var rows []owner.Row
	for _, kind := range []byte{0, 1, 2, 3, 4, 255} {
		rows = append(rows, owner.Row{Kind: kind}, owner.Row{Kind: kind, VM: 5}, owner.Row{Kind: kind, Page: 31}, owner.Row{Kind: kind, Shares: 1}, owner.Row{Kind: kind, VM: 1, Page: 2, Shares: 3})
	}
	for _, x := range rows {
		for _, y := range rows {
			for frame := range 3 {
				a, b := New(table.V1, 3), New(table.V2, 3)
				a.Owners.L[frame], b.Owners.L[frame] = x, y
				want := x.Kind != 3 && y.Kind != 3 || x == y
				if got := Same(a, b); got != want {
					t.Fatalf("frame %d: Same of %v and %v = %v", frame, x, y, got)
				}
			}
		}
	}
}

// A page that has gone to another frame isn't where it was.
func TestSameOfMovedPages(t *testing.T) {
	a, b := New(table.V1, 4), New(table.V1, 4)
	ok(t, "Donate", a.Owners.Donate(1, 2, 3))
	ok(t, "Donate", b.Owners.Donate(2, 2, 3))
	if Same(a, b) || Same(b, a) {
		t.Error("pages in other frames: the same")
	}
	// Tables may go anywhere.
	a, b = New(table.V1, 12), New(table.V2, 12)
	for frame := range 5 {
		ok(t, "Keep", a.Owners.Keep(frame, 4))
		ok(t, "Keep", b.Owners.Keep(11-frame, 4))
	}
	ok(t, "Keep", b.Owners.Keep(5, -1))
	if !Same(a, b) || !Same(b, a) {
		t.Error("tables in other frames: not the same")
	}
}

// Books with another count of frames aren't one, even where what is more is free.
func TestSameOfFrames(t *testing.T) {
	for frames := range 6 {
		for others := range 6 {
			if got := Same(New(table.V1, frames), New(table.V1, others)); got != (frames == others) {
				t.Errorf("of %d and %d frames: %v", frames, others, got)
			}
		}
	}
	if !Same(New(table.V1, 512), New(table.V2, 512)) || Same(New(table.V1, 512), New(table.V1, 511)) {
		t.Error("of 512 frames")
	}
}

// The same VM under another number isn't the same.
func TestSameOfOtherNumbers(t *testing.T) {
	for x := range 6 {
		for y := range 6 {
			a, b := New(table.V1, 2), New(table.V1, 2)
			a.VMs[x], b.VMs[y] = aVM(t, 2, 3, 4), aVM(t, 2, 3, 4)
			if got := Same(a, b); got != (x == y) {
				t.Errorf("VMs %d and %d: %v", x, y, got)
			}
		}
	}
}

// Several changes at once, of which some undo others.
func TestSameAtRandom(t *testing.T) {
	r := rand.New(rand.NewSource(16))
	base := filled(t)
	met := map[bool]int{}
	list := stateChanges(base)
	// What leaves fewer of something may have taken what another change is for.
	list = slices.DeleteFunc(list, func(c change) bool {
		for _, word := range []string{"without", "no ", "less", "shorter"} {
			if strings.Contains(c.what, word) {
				return true
			}
		}
		return false
	})
	var kept []change
	for _, c := range list {
		if c.kept {
			kept = append(kept, c)
		}
	}
	for range 1000 {
		from := list
		if r.Intn(2) == 0 {
			from = kept
		}
		a, b := base.Twin(), base.Twin()
		for range 1 + r.Intn(3) {
			c := from[r.Intn(len(from))]
			c.do(a)
			if r.Intn(2) == 0 {
				c.do(b)
			}
		}
		want := known(a) == known(b)
		met[want]++
		if got := Same(a, b); got != want || Same(b, a) != want {
			t.Fatalf("Same = %v; want %v of\n%s\nand\n%s", got, want, known(a), known(b))
		}
	}
	if met[true] < 150 || met[false] < 150 {
		t.Errorf("too few of one kind: %v", met)
	}
}

func TestNil(t *testing.T) {
	var s *State
	if s.Twin() != nil {
		t.Error("Twin")
	}
	if s.Ready() != [18]bool{} {
		t.Error("Ready")
	}
	vms := append([]int{0, 1, 2, 3, 4, 5}, noVMs...)
	for _, vm := range vms {
		if s.Time(vm) != 0 || s.There(vm) {
			t.Errorf("of VM %d: %d, %v", vm, s.Time(vm), s.There(vm))
		}
		for _, n := range append([]int{0, 1, 2}, noSeats...) {
			if s.Seat(vm, n) != nil {
				t.Errorf("Seat(%d, %d)", vm, n)
			}
		}
		for _, b := range vms {
			if s.Joined(vm, b) {
				t.Errorf("Joined(%d, %d)", vm, b)
			}
		}
	}
	if !Same(nil, nil) {
		t.Error("two nil states aren't the same")
	}
	for _, x := range []*State{{}, New(table.V1, 0), New(table.V1, 9), filled(t)} {
		if Same(nil, x) || Same(x, nil) {
			t.Errorf("a nil state is the same as %s", whole(x))
		}
	}
}

// States by hand, without owners: nothing panics.
func TestNoOwners(t *testing.T) {
	a, b := &State{}, &State{Form: table.V2, Now: 3}
	if !Same(a, b) || !Same(a, a) {
		t.Error("two without owners aren't the same")
	}
	if Same(a, New(table.V1, 1)) || Same(New(table.V1, 1), a) {
		t.Error("one without owners is the same as one of a frame")
	}
	a.Turns[17] = 1
	if Same(a, b) {
		t.Error("turns")
	}
}
