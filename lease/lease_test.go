package lease

import (
	"math"
	"math/rand"
	"slices"
	"testing"

	"hermitcrab/api"
)

var (
	noVMs    = []int{-1, 6, -2, -6, 7, 12, 255, 256, 1 << 32, 1<<32 + 1, math.MaxInt, math.MinInt}
	noPages  = []int{-1, 32, -2, -32, 33, 64, 255, 256, 1 << 32, 1<<32 + 1, math.MaxInt, math.MinInt}
	noLeases = []int{-1, 16, -2, -16, 17, 32, 255, 256, 1 << 32, 1<<32 + 1, math.MaxInt, math.MinInt}
)

// deed is a lease in a plain list, with its number; at has one page, or none.
type deed struct {
	n, from, page, to int
	write             bool
	at                []int
}

// list is a book told plainly: the leases there are, in any order.
type list []deed

func (l list) twin() list {
	m := slices.Clone(l)
	for i := range m {
		m[i].at = slices.Clone(m[i].at)
	}
	return m
}

// find: where a lease stands; -1: there is none of that number.
func (l list) find(n int) int {
	for i, d := range l {
		if d.n == n {
			return i
		}
	}
	return -1
}

func (l list) offer(from, page, to int, write bool) (list, int, api.Errno) {
	if from < 0 || from > 5 || to < 0 || to > 5 || page < 0 || page > 31 || from == to {
		return l, 0, api.ErrArg
	}
	for n := 0; n <= 15; n++ {
		if l.find(n) < 0 {
			return append(l.twin(), deed{n: n, from: from, page: page, to: to, write: write}), n, api.OK
		}
	}
	return l, 0, api.ErrFull
}

func (l list) accept(n, vm, at int) (list, api.Errno) {
	i := l.find(n)
	if i < 0 {
		return l, api.ErrNone
	}
	if l[i].to != vm {
		return l, api.ErrOwner
	}
	if len(l[i].at) == 1 {
		return l, api.ErrUsed
	}
	if at < 0 || at > 31 {
		return l, api.ErrArg
	}
	m := l.twin()
	m[i].at = []int{at}
	return m, api.OK
}

func (l list) leave(n, vm int) (list, api.Errno) {
	i := l.find(n)
	if i < 0 {
		return l, api.ErrNone
	}
	if l[i].to != vm {
		return l, api.ErrOwner
	}
	if len(l[i].at) == 0 {
		return l, api.ErrState
	}
	m := l.twin()
	m[i].at = nil
	return m, api.OK
}

func (l list) withdraw(n, vm int) (list, api.Errno) {
	i := l.find(n)
	if i < 0 {
		return l, api.ErrNone
	}
	if l[i].from != vm {
		return l, api.ErrOwner
	}
	if len(l[i].at) == 1 {
		return l, api.ErrUsed
	}
	return l.drop(n), api.OK
}

func (l list) drop(n int) list {
	if i := l.find(n); i >= 0 {
		return slices.Delete(l.twin(), i, i+1)
	}
	return l
}

func (l list) lent(vm, page int) bool {
	for _, d := range l {
		if d.from == vm && d.page == page {
			return true
		}
	}
	return false
}

func (l list) at(vm, page int) int {
	for n := 0; n <= 15; n++ {
		if i := l.find(n); i >= 0 && l[i].to == vm && slices.Equal(l[i].at, []int{page}) {
			return n
		}
	}
	return -1
}

func (l list) of(vm int) []int {
	var of []int
	for _, d := range l {
		if d.from == vm || d.to == vm {
			of = append(of, d.n)
		}
	}
	slices.Sort(of)
	return of
}

// book: the list as an array; what there is none of is noughts.
func (l list) book() Book {
	var b Book
	for _, d := range l {
		b[d.n] = Lease{On: true, From: d.from, Page: d.page, To: d.to, Write: d.write, At: -1}
		if len(d.at) == 1 {
			b[d.n].At = d.at[0]
		}
	}
	return b
}

// hold: is a book, and all that its calls tell, as the list is?
func hold(t *testing.T, b Book, l list) {
	t.Helper()
	want := l.book()
	if b != want {
		t.Fatalf("the book is %v; want %v", b, want)
	}
	for n := range b {
		e := api.OK
		if l.find(n) < 0 {
			e = api.ErrNone
		}
		if x, got := b.Get(n); x != want[n] || got != e {
			t.Fatalf("Get(%d) = %v, %d; want %v, %d", n, x, got, want[n], e)
		}
	}
	for vm := -1; vm <= 6; vm++ {
		for page := -1; page <= 32; page++ {
			if got := b.Lent(vm, page); got != l.lent(vm, page) {
				t.Fatalf("Lent(%d, %d) = %v of %v", vm, page, got, b)
			}
			if got := b.At(vm, page); got != l.at(vm, page) {
				t.Fatalf("At(%d, %d) = %d; want %d of %v", vm, page, got, l.at(vm, page), b)
			}
		}
		if got := b.Of(vm); !slices.Equal(got, l.of(vm)) {
			t.Fatalf("Of(%d) = %v; want %v of %v", vm, got, l.of(vm), b)
		}
	}
	if b != want {
		t.Fatal("what was asked has changed the book")
	}
}

// both: a book, and the same as a list.
type both struct {
	b Book
	l list
}

func (x *both) offer(t *testing.T, from, page, to int, write bool) (int, api.Errno) {
	t.Helper()
	was := x.b
	b, n, e := x.b.Offer(from, page, to, write)
	l, m, f := x.l.offer(from, page, to, write)
	if n != m || e != f {
		t.Fatalf("Offer(%d, %d, %d, %v) = %d, %d; want %d, %d", from, page, to, write, n, e, m, f)
	}
	x.turn(t, was, b, l, e)
	return n, e
}

func (x *both) accept(t *testing.T, n, vm, at int) api.Errno {
	t.Helper()
	was := x.b
	b, e := x.b.Accept(n, vm, at)
	l, f := x.l.accept(n, vm, at)
	if e != f {
		t.Fatalf("Accept(%d, %d, %d) = %d; want %d", n, vm, at, e, f)
	}
	x.turn(t, was, b, l, e)
	return e
}

func (x *both) leave(t *testing.T, n, vm int) api.Errno {
	t.Helper()
	was := x.b
	b, e := x.b.Leave(n, vm)
	l, f := x.l.leave(n, vm)
	if e != f {
		t.Fatalf("Leave(%d, %d) = %d; want %d", n, vm, e, f)
	}
	x.turn(t, was, b, l, e)
	return e
}

func (x *both) withdraw(t *testing.T, n, vm int) api.Errno {
	t.Helper()
	was := x.b
	b, e := x.b.Withdraw(n, vm)
	l, f := x.l.withdraw(n, vm)
	if e != f {
		t.Fatalf("Withdraw(%d, %d) = %d; want %d", n, vm, e, f)
	}
	x.turn(t, was, b, l, e)
	return e
}

func (x *both) drop(t *testing.T, n int) {
	t.Helper()
	was := x.b
	x.turn(t, was, x.b.Drop(n), x.l.drop(n), api.OK)
}

// turn: the book that was asked is as it was; the one that was answered is the next one, and, beside an error, as it was.
func (x *both) turn(t *testing.T, was, b Book, l list, e api.Errno) {
	t.Helper()
	if x.b != was {
		t.Fatalf("a book that was asked is another one: %v; was %v", x.b, was)
	}
	if e != api.OK && b != was {
		t.Fatalf("beside error %d: %v; was %v", e, b, was)
	}
	if b != l.book() {
		t.Fatalf("the book is %v; want %v", b, l.book())
	}
	x.b, x.l = b, l
}

// filled: 16 leases, of all VMs, every other one accepted.
func filled(t *testing.T) *both {
	t.Helper()
	x := &both{}
	for i := range 16 {
		if n, e := x.offer(t, i%6, 2*i, (i+1+i/6)%6, i%3 == 0); n != i || e != api.OK {
			t.Fatalf("offer %d: %d, %d", i, n, e)
		}
		if i%2 == 0 {
			if e := x.accept(t, i, (i+1+i/6)%6, 31-i); e != api.OK {
				t.Fatalf("accept %d: %d", i, e)
			}
		}
	}
	hold(t, x.b, x.l)
	return x
}

func TestEmptyBook(t *testing.T) {
	var b Book
	if len(b) != 16 {
		t.Fatal(len(b))
	}
	// Noughts aren't leases of page 0 from VM 0 to VM 0 at page 0.
	hold(t, b, nil)
	x := &both{}
	for n := range 16 {
		for vm := range 6 {
			x.accept(t, n, vm, 0)
			x.leave(t, n, vm)
			x.withdraw(t, n, vm)
		}
		x.drop(t, n)
	}
	hold(t, x.b, nil)
}

func TestExample(t *testing.T) {
	var b Book
	b, n, e := b.Offer(0, 3, 1, true)
	if n != 0 || e != api.OK || b[0] != (Lease{On: true, Page: 3, To: 1, Write: true, At: -1}) {
		t.Fatal(b, n, e)
	}
	b, e = b.Accept(0, 1, 9)
	if e != api.OK || b[0] != (Lease{On: true, Page: 3, To: 1, Write: true, At: 9}) {
		t.Fatal(b, e)
	}
	c, e := b.Withdraw(0, 0)
	if c != b || e != api.ErrUsed {
		t.Fatal(c, e)
	}
}

// From each VM to each other one, each page, to be written or not: offered, accepted at each page, left, withdrawn.
func TestOneLease(t *testing.T) {
	for from := range 6 {
		for to := range 6 {
			if from == to {
				continue
			}
			for page := range 32 {
				b, n, e := Book{}.Offer(from, page, to, page%2 == 1)
				want := Lease{On: true, From: from, Page: page, To: to, Write: page%2 == 1, At: -1}
				if n != 0 || e != api.OK || b != (Book{want}) {
					t.Fatalf("Offer(%d, %d, %d) = %v, %d, %d", from, page, to, b, n, e)
				}
				at := (page + from + to) % 32
				b, e = b.Accept(0, to, at)
				want.At = at
				if e != api.OK || b != (Book{want}) || b.At(to, at) != 0 || b.At(from, at) != -1 || !b.Lent(from, page) || b.Lent(to, page) {
					t.Fatalf("Accept(%d) = %v, %d", at, b, e)
				}
				b, e = b.Leave(0, to)
				want.At = -1
				if e != api.OK || b != (Book{want}) || b.At(to, at) != -1 || !b.Lent(from, page) {
					t.Fatalf("Leave = %v, %d", b, e)
				}
				b, e = b.Withdraw(0, from)
				if e != api.OK || b != (Book{}) || b.Lent(from, page) {
					t.Fatalf("Withdraw = %v, %d", b, e)
				}
			}
		}
	}
}

func TestEdges(t *testing.T) {
	x := &both{}
	for _, o := range [][4]int{{0, 0, 5, 0}, {5, 31, 0, 31}, {0, 31, 5, 31}, {5, 0, 0, 0}} {
		n, e := x.offer(t, o[0], o[1], o[2], false)
		if e != api.OK {
			t.Fatalf("Offer(%v) = %d", o, e)
		}
		hold(t, x.b, x.l)
		if e := x.accept(t, n, o[2], o[3]); e != api.OK {
			t.Fatalf("Accept(%v) = %d", o, e)
		}
		hold(t, x.b, x.l)
	}
	for _, a := range [][3]int{{5, 0, 0}, {0, 31, 1}, {5, 31, 2}, {0, 0, 3}, {5, -1, -1}, {0, -1, -1}, {5, 32, -1}, {0, 1, -1}, {4, 0, -1}, {-1, 0, -1}, {6, 0, -1}} {
		if n := x.b.At(a[0], a[1]); n != a[2] {
			t.Errorf("At(%d, %d) = %d; want %d", a[0], a[1], n, a[2])
		}
	}
}

func TestOfferOfNone(t *testing.T) {
	refused := func(x *both, from, page, to int) {
		t.Helper()
		for _, write := range []bool{false, true} {
			if n, e := x.offer(t, from, page, to, write); n != 0 || e != api.ErrArg {
				t.Errorf("Offer(%d, %d, %d) = %d, %d", from, page, to, n, e)
			}
		}
	}
	// The last one has no lease free: ErrArg stands first.
	some := filled(t)
	some.drop(t, 5)
	for _, x := range []*both{{}, some, filled(t)} {
		for _, no := range noVMs {
			for vm := range 6 {
				refused(x, no, 3, vm)
				refused(x, vm, 3, no)
			}
			for _, other := range append([]int{no}, noVMs...) {
				refused(x, no, 3, other)
				refused(x, no, -1, other)
			}
		}
		for _, no := range noPages {
			for vm := range 6 {
				refused(x, vm, no, (vm+1)%6)
				refused(x, vm, no, vm)
				refused(x, vm, no, 6)
			}
		}
		for vm := range 6 {
			for page := range 32 {
				refused(x, vm, page, vm)
			}
		}
		hold(t, x.b, x.l)
	}
}

func TestNoLeaseFree(t *testing.T) {
	x := filled(t)
	for from := range 6 {
		if n, e := x.offer(t, from, 0, (from+1)%6, true); n != 0 || e != api.ErrFull {
			t.Errorf("Offer of a 17th = %d, %d", n, e)
		}
	}
	hold(t, x.b, x.l)
	// One that was left is no number that is free; one that was withdrawn is.
	x.leave(t, 8, x.b[8].To)
	if _, e := x.offer(t, 0, 1, 1, false); e != api.ErrFull {
		t.Errorf("behind Leave: %d", e)
	}
	x.withdraw(t, 8, x.b[8].From)
	if n, e := x.offer(t, 0, 1, 1, false); n != 8 || e != api.OK {
		t.Errorf("behind Withdraw: %d, %d", n, e)
	}
	if n, e := x.offer(t, 0, 1, 1, false); n != 0 || e != api.ErrFull {
		t.Errorf("full again: %d, %d", n, e)
	}
	hold(t, x.b, x.l)
}

func TestTheLeastNumber(t *testing.T) {
	for a := range 16 {
		for b := range 16 {
			x := filled(t)
			x.drop(t, a)
			if x.leave(t, b, x.b[b].To); x.b[b].On {
				if e := x.withdraw(t, b, x.b[b].From); e != api.OK {
					t.Fatalf("Withdraw(%d) = %d", b, e)
				}
			}
			for _, want := range slices.Compact([]int{min(a, b), max(a, b)}) {
				if n, e := x.offer(t, 4, 0, 2, true); n != want || e != api.OK {
					t.Fatalf("Offer behind %d and %d = %d, %d; want %d", a, b, n, e, want)
				}
			}
			if _, e := x.offer(t, 4, 0, 2, true); e != api.ErrFull {
				t.Fatalf("behind them: %d", e)
			}
			hold(t, x.b, x.l)
		}
	}
	// Of a book that isn't full.
	x := &both{}
	for range 5 {
		x.offer(t, 1, 2, 3, false)
	}
	x.withdraw(t, 3, 1)
	x.drop(t, 1)
	for _, want := range []int{1, 3, 5, 6} {
		if n, e := x.offer(t, 3, 2, 1, true); n != want || e != api.OK {
			t.Fatalf("Offer = %d, %d; want %d", n, e, want)
		}
	}
	hold(t, x.b, x.l)
}

func TestGetOfNone(t *testing.T) {
	x := filled(t)
	for _, n := range noLeases {
		if l, e := x.b.Get(n); l != (Lease{}) || e != api.ErrNone {
			t.Errorf("Get(%d) = %v, %d", n, l, e)
		}
	}
	x.drop(t, 6)
	if l, e := x.b.Get(6); l != (Lease{}) || e != api.ErrNone {
		t.Errorf("Get(6) = %v, %d", l, e)
	}
}

// one: a lease 0 from VM 2 to VM 4, at a page or (of -1) nowhere; the book's other lease, 1, is of other VMs.
func one(t *testing.T, at int) *both {
	t.Helper()
	x := &both{}
	x.offer(t, 2, 7, 4, true)
	x.offer(t, 0, 7, 1, true)
	if at >= 0 {
		x.accept(t, 0, 4, at)
	}
	return x
}

func TestErrorsOfAccept(t *testing.T) {
	for _, c := range []struct {
		had, n, vm, at int
		want           api.Errno
	}{
		{-1, 0, 4, 0, api.OK}, {-1, 0, 4, 31, api.OK}, {-1, 0, 4, 7, api.OK},
		{-1, 2, 4, 9, api.ErrNone}, {-1, -1, 4, 9, api.ErrNone}, {-1, 16, 4, 9, api.ErrNone}, {-1, 15, 4, 9, api.ErrNone},
		{-1, 0, 2, 9, api.ErrOwner}, {-1, 0, 1, 9, api.ErrOwner}, {-1, 1, 4, 9, api.ErrOwner}, {-1, 0, -1, 9, api.ErrOwner}, {-1, 0, 6, 9, api.ErrOwner},
		{9, 0, 4, 9, api.ErrUsed}, {9, 0, 4, 10, api.ErrUsed}, {0, 0, 4, 10, api.ErrUsed}, {31, 0, 4, 10, api.ErrUsed},
		{-1, 0, 4, -1, api.ErrArg}, {-1, 0, 4, 32, api.ErrArg},
		// Two at once, or more.
		{-1, 2, 0, 32, api.ErrNone}, {-1, 16, -1, -1, api.ErrNone}, {-1, -1, 6, 32, api.ErrNone}, {9, 2, 4, 9, api.ErrNone},
		{9, 0, 2, 9, api.ErrOwner}, {9, 0, -1, 9, api.ErrOwner}, {-1, 0, 2, -1, api.ErrOwner}, {-1, 0, 6, 32, api.ErrOwner}, {9, 0, 2, 32, api.ErrOwner},
		{9, 0, 4, -1, api.ErrUsed}, {9, 0, 4, 32, api.ErrUsed}, {0, 0, 4, -1, api.ErrUsed},
	} {
		x := one(t, c.had)
		if e := x.accept(t, c.n, c.vm, c.at); e != c.want {
			t.Errorf("Accept(%d, %d, %d) of one at %d = %d; want %d", c.n, c.vm, c.at, c.had, e, c.want)
		}
		hold(t, x.b, x.l)
	}
}

func TestErrorsOfLeave(t *testing.T) {
	for _, c := range []struct {
		had, n, vm int
		want       api.Errno
	}{
		{9, 0, 4, api.OK}, {0, 0, 4, api.OK}, {31, 0, 4, api.OK},
		{9, 2, 4, api.ErrNone}, {9, -1, 4, api.ErrNone}, {9, 16, 4, api.ErrNone}, {9, 15, 4, api.ErrNone},
		{9, 0, 2, api.ErrOwner}, {9, 0, 1, api.ErrOwner}, {9, 0, -1, api.ErrOwner}, {9, 0, 6, api.ErrOwner},
		{-1, 0, 4, api.ErrState}, {9, 1, 1, api.ErrState},
		// Two at once.
		{-1, 2, 0, api.ErrNone}, {-1, 16, -1, api.ErrNone}, {9, -1, 6, api.ErrNone},
		{-1, 0, 2, api.ErrOwner}, {-1, 0, -1, api.ErrOwner}, {9, 1, 0, api.ErrOwner}, {9, 1, 4, api.ErrOwner},
	} {
		x := one(t, c.had)
		if e := x.leave(t, c.n, c.vm); e != c.want {
			t.Errorf("Leave(%d, %d) of one at %d = %d; want %d", c.n, c.vm, c.had, e, c.want)
		}
		hold(t, x.b, x.l)
	}
}

func TestErrorsOfWithdraw(t *testing.T) {
	for _, c := range []struct {
		had, n, vm int
		want       api.Errno
	}{
		{-1, 0, 2, api.OK}, {9, 1, 0, api.OK},
		{-1, 2, 2, api.ErrNone}, {-1, -1, 2, api.ErrNone}, {-1, 16, 2, api.ErrNone}, {-1, 15, 2, api.ErrNone},
		{-1, 0, 4, api.ErrOwner}, {-1, 0, 0, api.ErrOwner}, {-1, 0, -1, api.ErrOwner}, {-1, 0, 6, api.ErrOwner},
		{9, 0, 2, api.ErrUsed}, {0, 0, 2, api.ErrUsed}, {31, 0, 2, api.ErrUsed},
		// Two at once.
		{9, 2, 0, api.ErrNone}, {9, 16, -1, api.ErrNone}, {9, -1, 6, api.ErrNone},
		{9, 0, 4, api.ErrOwner}, {0, 0, 4, api.ErrOwner}, {9, 0, -1, api.ErrOwner}, {9, 0, 0, api.ErrOwner},
	} {
		x := one(t, c.had)
		if e := x.withdraw(t, c.n, c.vm); e != c.want {
			t.Errorf("Withdraw(%d, %d) of one at %d = %d; want %d", c.n, c.vm, c.had, e, c.want)
		}
		hold(t, x.b, x.l)
	}
}

func TestNoNumbers(t *testing.T) {
	x := filled(t)
	for _, n := range noLeases {
		for _, vm := range append([]int{0, 5}, noVMs...) {
			if e := x.accept(t, n, vm, 3); e != api.ErrNone {
				t.Errorf("Accept(%d, %d) = %d", n, vm, e)
			}
			if e := x.leave(t, n, vm); e != api.ErrNone {
				t.Errorf("Leave(%d, %d) = %d", n, vm, e)
			}
			if e := x.withdraw(t, n, vm); e != api.ErrNone {
				t.Errorf("Withdraw(%d, %d) = %d", n, vm, e)
			}
		}
		x.drop(t, n)
	}
	for n := range 16 {
		for _, vm := range noVMs {
			if e := x.accept(t, n, vm, 3); e != api.ErrOwner {
				t.Errorf("Accept(%d, %d) = %d", n, vm, e)
			}
			if e := x.leave(t, n, vm); e != api.ErrOwner {
				t.Errorf("Leave(%d, %d) = %d", n, vm, e)
			}
			if e := x.withdraw(t, n, vm); e != api.ErrOwner {
				t.Errorf("Withdraw(%d, %d) = %d", n, vm, e)
			}
		}
	}
	for _, at := range noPages {
		if e := x.accept(t, 1, x.b[1].To, at); e != api.ErrArg {
			t.Errorf("Accept at %d = %d", at, e)
		}
	}
	hold(t, x.b, x.l)
}

func TestAskedOfNone(t *testing.T) {
	x := filled(t)
	for _, vm := range append([]int{0, 1, 2, 3, 4, 5}, noVMs...) {
		for _, page := range noPages {
			if x.b.Lent(vm, page) || x.b.At(vm, page) != -1 {
				t.Errorf("of page %d of VM %d: %v, %d", page, vm, x.b.Lent(vm, page), x.b.At(vm, page))
			}
		}
	}
	for _, vm := range noVMs {
		for page := range 32 {
			if x.b.Lent(vm, page) || x.b.At(vm, page) != -1 {
				t.Errorf("of page %d of VM %d: %v, %d", page, vm, x.b.Lent(vm, page), x.b.At(vm, page))
			}
		}
		if l := x.b.Of(vm); len(l) != 0 {
			t.Errorf("Of(%d) = %v", vm, l)
		}
	}
}

// A page is lent as long as any lease of it is.
func TestLentTwice(t *testing.T) {
	x := &both{}
	x.offer(t, 3, 8, 1, true)
	x.offer(t, 3, 8, 2, false)
	x.offer(t, 3, 8, 1, false)
	for _, n := range []int{1, 0, 2} {
		if !x.b.Lent(3, 8) {
			t.Fatalf("it isn't lent: %v", x.b)
		}
		x.withdraw(t, n, 3)
		hold(t, x.b, x.l)
	}
	if x.b.Lent(3, 8) {
		t.Fatal("it is lent")
	}
}

// Leases at one page: the least tells, until it is left, or is no more.
func TestAtOnePage(t *testing.T) {
	x := &both{}
	for n := range 5 {
		x.offer(t, n%2, 10+n, 5, true)
	}
	for _, n := range []int{4, 2, 3, 1} {
		x.accept(t, n, 5, 0)
		hold(t, x.b, x.l)
	}
	for _, want := range []int{1, 2, 3, 4, -1} {
		if n := x.b.At(5, 0); n != want {
			t.Fatalf("At = %d; want %d", n, want)
		}
		if want%2 == 0 {
			x.drop(t, want)
		} else {
			x.leave(t, want, 5)
		}
		hold(t, x.b, x.l)
	}
}

// Several that aren't accepted aren't at page -1, nor at any.
func TestAtBelow0(t *testing.T) {
	x := &both{}
	x.offer(t, 0, 0, 1, true)
	x.offer(t, 0, 1, 1, true)
	x.accept(t, 1, 1, 0)
	x.leave(t, 1, 1)
	for _, page := range []int{-1, -2, math.MinInt, 0, 1} {
		if n := x.b.At(1, page); n != -1 {
			t.Errorf("At(1, %d) = %d", page, n)
		}
	}
	// Nowhere may be told by any number below 0.
	b := Book{{On: true, From: 0, To: 1, At: -2}}
	if n := b.At(1, -2); n != -1 {
		t.Errorf("At(1, -2) = %d", n)
	}
	if _, e := b.Leave(0, 1); e != api.ErrState {
		t.Errorf("Leave = %d", e)
	}
	if c, e := b.Accept(0, 1, 3); e != api.OK || c[0].At != 3 {
		t.Errorf("Accept = %v, %d", c[0], e)
	}
	if c, e := b.Withdraw(0, 0); e != api.OK || c != (Book{}) {
		t.Errorf("Withdraw = %v, %d", c, e)
	}
}

// What else stands in a row that isn't On plays no part, and an Offer leaves none of it.
func TestRowsThatAreNotOn(t *testing.T) {
	var b Book
	for n := range b {
		b[n] = Lease{From: 1, Page: 2, To: 3, Write: true, At: n}
	}
	if l, e := b.Get(4); l != (Lease{}) || e != api.ErrNone {
		t.Errorf("Get = %v, %d", l, e)
	}
	if b.Lent(1, 2) || b.At(3, 4) != -1 || len(b.Of(1)) != 0 || len(b.Of(3)) != 0 {
		t.Errorf("%v, %d, %v, %v", b.Lent(1, 2), b.At(3, 4), b.Of(1), b.Of(3))
	}
	if c, e := b.Accept(4, 3, 3); c != b || e != api.ErrNone {
		t.Errorf("Accept = %d", e)
	}
	if c, e := b.Leave(4, 3); c != b || e != api.ErrNone {
		t.Errorf("Leave = %d", e)
	}
	if c, e := b.Withdraw(4, 1); c != b || e != api.ErrNone {
		t.Errorf("Withdraw = %d", e)
	}
	want := b
	want[0] = Lease{On: true, From: 2, Page: 0, To: 0, At: -1}
	if c, n, e := b.Offer(2, 0, 0, false); c != want || n != 0 || e != api.OK {
		t.Errorf("Offer = %v, %d, %d", c, n, e)
	}
}

func TestDrop(t *testing.T) {
	for n := range 16 {
		x := filled(t)
		for range 2 {
			x.drop(t, n)
			hold(t, x.b, x.l)
			if x.b[n] != (Lease{}) {
				t.Fatalf("Drop(%d) leaves %v", n, x.b[n])
			}
		}
	}
	x := filled(t)
	for n := range 16 {
		x.drop(t, n)
		hold(t, x.b, x.l)
	}
	if x.b != (Book{}) {
		t.Errorf("all are dropped: %v", x.b)
	}
}

// What Of answers is the caller's.
func TestOfIsTheCallers(t *testing.T) {
	x := filled(t)
	of := x.b.Of(3)
	if len(of) < 3 {
		t.Fatal(of)
	}
	_ = append(of[:1], 9, 9)
	for i := range of {
		of[i] = -5
	}
	hold(t, x.b, x.l)
}

// picker draws what is, mostly, and at times what isn't.
type picker struct{ *rand.Rand }

func (r picker) from(have int, none []int) int {
	if r.Intn(12) == 0 {
		return none[r.Intn(len(none))]
	}
	return r.Intn(have)
}

func (r picker) vm() int    { return r.from(6, noVMs) }
func (r picker) page() int  { return r.from(32, noPages) }
func (r picker) lease() int { return r.from(16, noLeases) }

// sides: mostly whom a lease is from, and to, so that much goes well.
func (r picker) sides(b Book, n int) (int, int) {
	if l, e := b.Get(n); e == api.OK && r.Intn(4) > 0 {
		return l.From, l.To
	}
	return r.vm(), r.vm()
}

// answer is what an act was answered.
type answer struct {
	act string
	e   api.Errno
}

func TestInAnyOrder(t *testing.T) {
	r := picker{rand.New(rand.NewSource(14))}
	done := map[answer]int{}
	for range 40 {
		x := &both{}
		offers := 2 + r.Intn(4)
		for range 150 {
			n := r.lease()
			from, to := r.sides(x.b, n)
			act, e := "", api.OK
			switch k := r.Intn(offers + 7); {
			case k < 2:
				act, e = "accept", x.accept(t, n, to, r.page())
			case k < 4:
				act, e = "leave", x.leave(t, n, to)
			case k < 6:
				act, e = "withdraw", x.withdraw(t, n, from)
			case k < 7:
				act = "drop"
				x.drop(t, n)
			default:
				act = "offer"
				_, e = x.offer(t, r.vm(), r.page()%8, r.vm(), r.Intn(2) == 0)
			}
			done[answer{act, e}]++
			hold(t, x.b, x.l)
		}
	}
	// Each answer was met, so that none of them goes untested.
	for _, w := range []struct {
		act string
		es  []api.Errno
	}{
		{"offer", []api.Errno{api.OK, api.ErrArg, api.ErrFull}},
		{"accept", []api.Errno{api.OK, api.ErrNone, api.ErrOwner, api.ErrUsed, api.ErrArg}},
		{"leave", []api.Errno{api.OK, api.ErrNone, api.ErrOwner, api.ErrState}},
		{"withdraw", []api.Errno{api.OK, api.ErrNone, api.ErrOwner, api.ErrUsed}},
		{"drop", []api.Errno{api.OK}},
	} {
		for _, e := range w.es {
			if done[answer{w.act, e}] == 0 {
				t.Errorf("%s was never answered %d", w.act, e)
			}
		}
	}
}
