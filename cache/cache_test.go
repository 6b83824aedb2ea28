package cache

import (
	"math"
	"math/rand"
	"testing"

	"hermitcrab/table"
)

// put is one entry that was put, told plainly.
type put struct {
	vm, page int
	x        table.Entry
}

// list is a cache told plainly: what was put, the eldest first.
type list []put

func (l list) look(vm, page int) (table.Entry, bool) {
	for _, p := range l {
		if p.vm == vm && p.page == page {
			return p.x, true
		}
	}
	return table.Entry{}, false
}

func (l list) put(vm, page int, x table.Entry) list {
	l = append(l.drop(vm, page), put{vm, page, x})
	if len(l) > 8 {
		return l[1:]
	}
	return l
}

func (l list) drop(vm, page int) list {
	var left list
	for _, p := range l {
		if p.vm != vm || p.page != page {
			left = append(left, p)
		}
	}
	return left
}

func (l list) dropVM(vm int) list {
	var left list
	for _, p := range l {
		if p.vm != vm {
			left = append(left, p)
		}
	}
	return left
}

// entry: one that tells its number in all its parts.
func entry(n int) table.Entry {
	return table.Entry{There: n%2 == 0, Frame: n, Write: n%3 == 0}
}

func wantLook(t *testing.T, c *Cache, vm, page int, want table.Entry, ok bool) {
	t.Helper()
	if x, got := c.Look(vm, page); x != want || got != ok {
		t.Fatalf("Look(%d, %d) = %v, %v; want %v, %v", vm, page, x, got, want, ok)
	}
}

func wantLen(t *testing.T, c *Cache, want int) {
	t.Helper()
	if n := c.Len(); n != want {
		t.Fatalf("Len() = %d; want %d", n, want)
	}
}

// hold: does a cache tell what the list has, and nothing else of these VMs' pages?
func hold(t *testing.T, c *Cache, l list, vms, pages []int) {
	t.Helper()
	wantLen(t, c, len(l))
	for _, p := range l {
		wantLook(t, c, p.vm, p.page, p.x, true)
	}
	for _, vm := range vms {
		for _, page := range pages {
			want, ok := l.look(vm, page)
			wantLook(t, c, vm, page, want, ok)
		}
	}
}

// ages: do the entries go one by one, the eldest first, when others are put? (The cache has only those others behind it.)
func ages(t *testing.T, c *Cache, l list) {
	t.Helper()
	wantLen(t, c, len(l))
	for i := range 8 {
		c.Put(-77, 1000+i, entry(i))
		gone := max(len(l)+i+1-8, 0)
		for j, p := range l {
			if j < gone {
				wantLook(t, c, p.vm, p.page, table.Entry{}, false)
			} else {
				wantLook(t, c, p.vm, p.page, p.x, true)
			}
		}
		wantLen(t, c, min(len(l)+i+1, 8))
	}
}

// filled: a cache, and its list, with n entries of the VMs 0, 1 and 2 in turn, pages 10 and on.
func filled(n int) (*Cache, list) {
	c := &Cache{}
	var l list
	for i := range n {
		c.Put(i%3, 10+i, entry(i))
		l = l.put(i%3, 10+i, entry(i))
	}
	return c, l
}

var (
	fewVMs   = []int{-1, 0, 1, 2, 3}
	fewPages = []int{-1, 0, 1, 9, 10, 11, 12, 13, 14, 15, 16, 17, 18, 19, 20}
	// VMs and pages that are none, too: a cache doesn't look at what the numbers mean.
	anyNumbers = []int{0, 1, -1, 2, -2, 5, 6, 31, 32, 255, 256, 1 << 16, 1 << 31, 1 << 32, 1<<32 + 1, -1 << 32, math.MaxInt, math.MaxInt - 1, math.MinInt, math.MinInt + 1}
)

func TestSize(t *testing.T) {
	if Size != 8 {
		t.Error(Size)
	}
}

func TestExample(t *testing.T) {
	c := &Cache{}
	for i := range 9 {
		c.Put(0, i, entry(i))
	}
	wantLook(t, c, 0, 0, table.Entry{}, false)
	for i := 1; i < 9; i++ {
		wantLook(t, c, 0, i, entry(i), true)
	}
	wantLen(t, c, 8)
}

func TestZeroValueIsEmpty(t *testing.T) {
	var c Cache
	hold(t, &c, nil, anyNumbers, anyNumbers)
	c.Drop(0, 0)
	c.DropVM(0)
	c.Clear()
	hold(t, &c, nil, anyNumbers, anyNumbers)
	// A page that isn't there is no entry of noughts that was put.
	c.Put(0, 0, table.Entry{})
	wantLook(t, &c, 0, 0, table.Entry{}, true)
	wantLen(t, &c, 1)
	wantLook(t, &c, 0, 1, table.Entry{}, false)
}

func TestNil(t *testing.T) {
	var c *Cache
	for _, n := range anyNumbers {
		c.Put(n, n, entry(2))
		c.Drop(n, n)
		c.DropVM(n)
		c.Clear()
		wantLook(t, c, n, n, table.Entry{}, false)
		wantLen(t, c, 0)
	}
}

func TestPutToSizeAndOneMore(t *testing.T) {
	for n := range 20 {
		c, l := filled(n)
		if len(l) != min(n, 8) {
			t.Fatalf("%d put: the list has %d", n, len(l))
		}
		hold(t, c, l, fewVMs, fewPages)
		ages(t, c, l)
	}
}

// TestPutAgain: it is the newest then, whichever it was, and none goes, as there aren't more.
func TestPutAgain(t *testing.T) {
	for n := 1; n <= 8; n++ {
		for i := range n {
			c, l := filled(n)
			c.Put(i%3, 10+i, entry(99))
			l = l.put(i%3, 10+i, entry(99))
			if len(l) != n || l[n-1].x != entry(99) {
				t.Fatal(l)
			}
			hold(t, c, l, fewVMs, fewPages)
			ages(t, c, l)
		}
	}
	c, l := filled(8)
	for range 3 { // with the entry that it has
		c.Put(0, 10, entry(0))
		l = l.put(0, 10, entry(0))
		hold(t, c, l, fewVMs, fewPages)
	}
	ages(t, c, l)
}

// TestEntriesAsTheyArePut: any entry, also one that isn't There, takes the place of the one before.
func TestEntriesAsTheyArePut(t *testing.T) {
	c := &Cache{}
	for _, there := range []bool{true, false} {
		for _, write := range []bool{true, false} {
			for _, frame := range anyNumbers {
				x := table.Entry{There: there, Frame: frame, Write: write}
				c.Put(3, 4, x)
				wantLook(t, c, 3, 4, x, true)
				wantLen(t, c, 1)
			}
		}
	}
}

func TestLookMakesNoneNewer(t *testing.T) {
	for i := range 8 {
		c, l := filled(8)
		for range 5 {
			wantLook(t, c, i%3, 10+i, entry(i), true)
			wantLook(t, c, i%3, 99, table.Entry{}, false)
		}
		ages(t, c, l)
	}
}

func TestDrop(t *testing.T) {
	for n := range 9 {
		for i := range n {
			c, l := filled(n)
			for range 2 { // the second one finds nothing
				c.Drop(i%3, 10+i)
				l = l.drop(i%3, 10+i)
				if len(l) != n-1 {
					t.Fatal(l)
				}
				hold(t, c, l, fewVMs, fewPages)
			}
			ages(t, c, l)
		}
	}
}

func TestDropOfNone(t *testing.T) {
	c, l := filled(8)
	for _, vm := range anyNumbers {
		c.Drop(vm, 18)
		c.Drop(vm, 9)
		c.Drop(vm, -10)
		c.Drop(10, vm)
		c.Drop(vm, vm)
	}
	c.Drop(1, 10) // VM 0's page 10 is there, VM 1's isn't
	c.Drop(0, 11)
	c.Drop(10, 0)
	hold(t, c, l, fewVMs, fewPages)
	ages(t, c, l)
}

func TestDropVM(t *testing.T) {
	for n := range 9 {
		for vm := range 3 {
			c, l := filled(n)
			for range 2 {
				c.DropVM(vm)
				l = l.dropVM(vm)
				hold(t, c, l, fewVMs, fewPages)
			}
			ages(t, c, l)
		}
	}
	c, l := filled(8)
	for _, vm := range anyNumbers {
		if vm < 0 || vm > 2 {
			c.DropVM(vm)
		}
	}
	for page := 10; page < 20; page++ {
		c.DropVM(page) // a page's number is no VM's
	}
	hold(t, c, l, fewVMs, fewPages)
	ages(t, c, l)
}

func TestDropVMOfAll(t *testing.T) {
	c := &Cache{}
	for i := range 12 {
		c.Put(4, i, entry(i))
	}
	c.DropVM(3)
	wantLen(t, c, 8)
	c.DropVM(4)
	hold(t, c, nil, []int{3, 4, 5}, fewPages)
	ages(t, c, nil)
}

func TestClear(t *testing.T) {
	for n := range 10 {
		c, _ := filled(n)
		for range 2 {
			c.Clear()
			hold(t, c, nil, fewVMs, fewPages)
		}
		// It has as much room as a new one.
		var l list
		for i := range 9 {
			c.Put(1, i, entry(i))
			l = l.put(1, i, entry(i))
			hold(t, c, l, fewVMs, fewPages)
		}
		ages(t, c, l)
	}
}

// TestAnyNumbers: VMs and pages of any numbers are each its own.
func TestAnyNumbers(t *testing.T) {
	for i, a := range anyNumbers {
		for j, b := range anyNumbers {
			c := &Cache{}
			c.Put(a, b, entry(1))
			l := list{}.put(a, b, entry(1))
			hold(t, c, l, anyNumbers, anyNumbers)
			c.Put(b, a, entry(2))
			l = l.put(b, a, entry(2))
			hold(t, c, l, anyNumbers, anyNumbers)
			if i != j {
				wantLen(t, c, 2)
			}
			c.DropVM(a)
			hold(t, c, l.dropVM(a), anyNumbers, anyNumbers)
			c.Drop(b, a)
			hold(t, c, nil, anyNumbers, anyNumbers)
		}
	}
}

func TestCachesOfTheirOwn(t *testing.T) {
	a, l := filled(8)
	b, m := filled(8)
	b.Put(1, 1, entry(50))
	m = m.put(1, 1, entry(50))
	b.DropVM(2)
	m = m.dropVM(2)
	hold(t, a, l, fewVMs, fewPages)
	a.Clear()
	hold(t, a, nil, fewVMs, fewPages)
	hold(t, b, m, fewVMs, fewPages)
	ages(t, b, m)
}

// TestManySteps holds caches against lists, from one step to hundreds, then looks in which order the entries go.
func TestManySteps(t *testing.T) {
	r := rand.New(rand.NewSource(1))
	for round := range 3000 {
		// Few VMs and pages, so that they meet again; as many as make room tight.
		vms := anyNumbers[:1+r.Intn(4)]
		pages := anyNumbers[:1+r.Intn(6)]
		c := &Cache{}
		var l list
		for range 1 + round%200 {
			vm, page := vms[r.Intn(len(vms))], pages[r.Intn(len(pages))]
			switch n := r.Intn(40); {
			case n < 26:
				x := entry(r.Intn(1000))
				c.Put(vm, page, x)
				l = l.put(vm, page, x)
			case n < 34:
				c.Drop(vm, page)
				l = l.drop(vm, page)
			case n < 38:
				want, ok := l.look(vm, page)
				wantLook(t, c, vm, page, want, ok)
			case n < 39:
				c.DropVM(vm)
				l = l.dropVM(vm)
			case r.Intn(4) == 0:
				c.Clear()
				l = nil
			}
			hold(t, c, l, vms, pages)
		}
		ages(t, c, l)
	}
}
