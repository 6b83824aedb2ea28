package table

import (
	"bytes"
	"encoding/binary"
	"math"
	"math/rand"
	"slices"
	"testing"

	"hermitcrab/api"
	"hermitcrab/store"
)

var (
	forms   = []int{V1, V2}
	noForms = []int{0, 3, -1, -2, 4, 257, 258, 1 << 32, 1<<32 + 1, math.MaxInt, math.MinInt}
	noPages = []int{-1, 32, -2, -8, -32, 33, 40, 64, 1 << 32, 1 << 60, math.MaxInt, math.MinInt}
)

// plainPack adds up a word by the chapter's words.
func plainPack(form int, x Entry) uint64 {
	var w uint64
	switch {
	case !x.There:
		return 0
	case form == V1:
		w = 1 + uint64(x.Frame)*256
		if x.Write {
			w += 2
		}
	case form == V2:
		w = 1<<63 + uint64(65535-x.Frame)
		if x.Write {
			w += 1 << 62
		}
	}
	return w
}

func wantUnpack(t *testing.T, form int, w uint64, want Entry, ok bool) {
	t.Helper()
	if x, got := Unpack(form, w); x != want || got != ok {
		t.Fatalf("Unpack(%d, %x) = %v, %v; want %v, %v", form, w, x, got, want, ok)
	}
}

// frameBytes: a store's frames, byte by byte, one behind the other.
func frameBytes(t *testing.T, s *store.Store) []byte {
	t.Helper()
	var all []byte
	for f := range s.Frames() {
		p, e := s.Read(f, 0, 256)
		if e != api.OK {
			t.Fatalf("frame %d: %d", f, e)
		}
		all = append(all, p...)
	}
	return all
}

// filled: frames none of whose words is an entry of either form.
func filled(t *testing.T, frames int) *store.Store {
	t.Helper()
	s := store.New(frames)
	for f := range s.Frames() {
		p := make([]byte, 256)
		for i := range p {
			p[i] = byte(i*7+f*31) | 0x10
		}
		if e := s.Write(f, 0, p); e != api.OK {
			t.Fatal(e)
		}
	}
	return s
}

// wantBytes: are a store's frames these bytes?
func wantBytes(t *testing.T, s *store.Store, want []byte) {
	t.Helper()
	got := frameBytes(t, s)
	if len(got) != len(want) {
		t.Fatalf("%d bytes; want %d", len(got), len(want))
	}
	for i := range got {
		if got[i] != want[i] {
			t.Fatalf("frame %d, byte %d: %x; want %x", i/256, i%256, got[i], want[i])
		}
	}
}

// putWord: word i of a frame, among all frames' bytes.
func putWord(all []byte, frame, i int, w uint64) {
	binary.LittleEndian.PutUint64(all[256*frame+8*i:], w)
}

func made(t *testing.T, s *store.Store, form int, frames ...int) Table {
	t.Helper()
	x, e := Make(s, form, frames)
	if e != api.OK || x.Form != form || !slices.Equal(x.Frames, frames) {
		t.Fatalf("Make(%d, %v) = %v, %d", form, frames, x, e)
	}
	return x
}

func wantWalk(t *testing.T, x Table, s *store.Store, page int, want Entry, err api.Errno) {
	t.Helper()
	if y, e := x.Walk(s, page); y != want || e != err {
		t.Fatalf("form %d: Walk(%d) = %v, %d; want %v, %d", x.Form, page, y, e, want, err)
	}
}

func wantMap(t *testing.T, x Table, s *store.Store, page, frame int, write bool, err api.Errno) {
	t.Helper()
	if e := x.Map(s, page, frame, write); e != err {
		t.Fatalf("form %d: Map(%d, %d, %v): %d; want %d", x.Form, page, frame, write, e, err)
	}
}

func wantUnmap(t *testing.T, x Table, s *store.Store, page int, err api.Errno) {
	t.Helper()
	if e := x.Unmap(s, page); e != err {
		t.Fatalf("form %d: Unmap(%d): %d; want %d", x.Form, page, e, err)
	}
}

// wantPages: are these all pages, by Walk and by All? (One that isn't There is none.)
func wantPages(t *testing.T, x Table, s *store.Store, list [32]Entry) {
	t.Helper()
	var pages []int
	var entries []Entry
	for page, want := range list {
		if !want.There {
			wantWalk(t, x, s, page, Entry{}, api.ErrFault)
			continue
		}
		wantWalk(t, x, s, page, want, api.OK)
		pages = append(pages, page)
		entries = append(entries, want)
	}
	if l, m := x.All(s); !slices.Equal(l, pages) || !slices.Equal(m, entries) {
		t.Fatalf("form %d: All() = %v, %v; want %v, %v", x.Form, l, m, pages, entries)
	}
}

// wantNone: does every call, at every page, tell this error, and change nothing?
func wantNone(t *testing.T, x Table, s *store.Store, err api.Errno) {
	t.Helper()
	before := frameBytes(t, s)
	for page := range 32 {
		wantWalk(t, x, s, page, Entry{}, err)
		wantUnmap(t, x, s, page, err)
		for f := range s.Frames() {
			wantMap(t, x, s, page, f, page%2 == 0, err)
		}
	}
	if l, m := x.All(s); len(l) != 0 || len(m) != 0 {
		t.Fatalf("All() = %v, %v", l, m)
	}
	wantBytes(t, s, before)
}

func TestConstants(t *testing.T) {
	if V1 != 1 || V2 != 2 || Need != 5 {
		t.Error(V1, V2, Need)
	}
}

// P6.1.

func TestPackOfSome(t *testing.T) {
	for _, c := range []struct {
		form  int
		frame int
		write bool
		want  uint64
	}{
		{V1, 5, true, 0x503},
		{V1, 5, false, 0x501},
		{V1, 0, false, 1},
		{V1, 0, true, 3},
		{V1, 1, false, 0x101},
		{V1, 255, true, 0xff03},
		{V1, 256, false, 0x10001},
		{V1, 511, true, 0x1ff03},
		{V1, 0x1234, false, 0x123401},
		{V1, 65535, false, 0xffff01},
		{V1, 65535, true, 0xffff03},
		{V2, 5, true, 0xc00000000000fffa},
		{V2, 5, false, 0x800000000000fffa},
		{V2, 0, false, 0x800000000000ffff},
		{V2, 0, true, 0xc00000000000ffff},
		{V2, 1, false, 0x800000000000fffe},
		{V2, 255, true, 0xc00000000000ff00},
		{V2, 256, false, 0x800000000000feff},
		{V2, 511, true, 0xc00000000000fe00},
		{V2, 0x1234, false, 0x800000000000edcb},
		{V2, 65535, false, 0x8000000000000000},
		{V2, 65535, true, 0xc000000000000000},
	} {
		x := Entry{There: true, Frame: c.frame, Write: c.write}
		if w := Pack(c.form, x); w != c.want {
			t.Errorf("Pack(%d, %v) = %x; want %x", c.form, x, w, c.want)
		}
		wantUnpack(t, c.form, c.want, x, true)
	}
}

func TestPackOfOneThatIsNotThere(t *testing.T) {
	for _, form := range forms {
		for _, frame := range []int{0, 1, 5, 511, 65535} {
			for _, write := range []bool{false, true} {
				if w := Pack(form, Entry{Frame: frame, Write: write}); w != 0 {
					t.Errorf("Pack(%d, frame %d, not There) = %x", form, frame, w)
				}
			}
		}
		wantUnpack(t, form, 0, Entry{}, true)
	}
}

func TestEveryFrameAndBack(t *testing.T) {
	for _, form := range forms {
		for frame := range 65536 {
			for _, write := range []bool{false, true} {
				x := Entry{There: true, Frame: frame, Write: write}
				w := Pack(form, x)
				if w != plainPack(form, x) {
					t.Fatalf("Pack(%d, %v) = %x; want %x", form, x, w, plainPack(form, x))
				}
				wantUnpack(t, form, w, x, true)
			}
		}
	}
}

// allWords: every word that Pack makes of a form, and of what.
func allWords(form int) map[uint64]Entry {
	all := map[uint64]Entry{0: {}}
	for frame := range 65536 {
		for _, write := range []bool{false, true} {
			x := Entry{There: true, Frame: frame, Write: write}
			all[plainPack(form, x)] = x
		}
	}
	return all
}

// TestWordsBesideThoseOfPack: a word that is one or two bits beside one that Pack makes, and words of any bits.
func TestWordsBesideThoseOfPack(t *testing.T) {
	r := rand.New(rand.NewSource(1))
	for _, form := range forms {
		all := allWords(form)
		look := func(w uint64) {
			t.Helper()
			want, ok := all[w]
			wantUnpack(t, form, w, want, ok)
		}
		for _, frame := range []int{0, 1, 5, 255, 256, 511, 512, 0x1234, 0x5555, 0xaaaa, 65534, 65535} {
			for _, x := range []Entry{{}, {There: true, Frame: frame}, {There: true, Frame: frame, Write: true}} {
				w := plainPack(form, x)
				for i := range 64 {
					look(w ^ 1<<i)
					for j := range 64 {
						look(w ^ 1<<i ^ 1<<j)
					}
				}
			}
		}
		for range 100000 {
			look(r.Uint64())
			look(r.Uint64() & 0xc00000000003ffff)
			look(r.Uint64() & 0x1ffffff)
		}
	}
}

func TestUnpackOfNone(t *testing.T) {
	for form, words := range map[int][]uint64{
		V1: {2, 4, 5, 7, 0x80, 0x81, 0x83, 0x500, 0x502, 0x504, 0x505, 0x583, 0xffff00, 0xffff02, 1 << 24, 1<<24 | 1, 1<<24 | 3, 1<<63 | 1, 1 << 63, 3<<62 | 0xfffa, math.MaxUint64, math.MaxUint64 - 1},
		V2: {1, 3, 0x503, 0xffff, 0xfffa, 1 << 62, 1<<62 | 0xfffa, 1 << 61, 1<<63 | 1<<61, 3<<62 | 1<<61, 1<<63 | 1<<16, 3<<62 | 1<<16 | 5, 1 << 16, 7 << 61, math.MaxUint64, math.MaxUint64 >> 1},
	} {
		for _, w := range words {
			wantUnpack(t, form, w, Entry{}, false)
		}
	}
}

func TestFormsThatAreNone(t *testing.T) {
	for _, form := range noForms {
		for _, w := range []uint64{0, 1, 3, 0x501, 0x503, 0xffff03, 1 << 63, 3 << 62, 3<<62 | 0xfffa, math.MaxUint64} {
			wantUnpack(t, form, w, Entry{}, false)
		}
		// What word it is isn't promised, but that there is one.
		Pack(form, Entry{There: true, Frame: 5})
		Pack(form, Entry{})
	}
	for _, form := range forms {
		for _, frame := range []int{-1, 65536, 1 << 40, math.MaxInt, math.MinInt} {
			Pack(form, Entry{There: true, Frame: frame, Write: true})
		}
	}
}

// P6.2.

func TestMakeWritesTheRoot(t *testing.T) {
	for _, form := range forms {
		for _, frames := range [][]int{{9, 8, 7, 6, 5}, {0, 1, 2, 3, 4}, {19, 0, 18, 2, 17}, {3, 19, 11, 0, 7}} {
			s := filled(t, 20)
			want := frameBytes(t, s)
			for _, f := range frames {
				clear(want[256*f : 256*f+256])
			}
			for i := range 4 {
				putWord(want, frames[0], i, plainPack(form, Entry{There: true, Frame: frames[i+1], Write: true}))
			}
			x := made(t, s, form, frames...)
			wantBytes(t, s, want)
			wantPages(t, x, s, [32]Entry{})
			wantBytes(t, s, want)
		}
	}
}

func TestMakeAgain(t *testing.T) {
	s := store.New(12)
	x := made(t, s, V1, 1, 2, 3, 4, 5)
	wantMap(t, x, s, 7, 11, true, api.OK)
	wantMap(t, x, s, 31, 10, false, api.OK)
	// The same frames, in another order and of the other form: nothing of the first is left.
	y := made(t, s, V2, 5, 1, 4, 2, 3)
	wantPages(t, y, s, [32]Entry{})
	wantMap(t, y, s, 7, 9, false, api.OK)
	wantPages(t, y, s, [32]Entry{7: {There: true, Frame: 9}})
	wantNone(t, x, s, api.ErrFault)
}

func TestMakeAtTheEndOfTheStore(t *testing.T) {
	for _, form := range forms {
		for _, frames := range []int{5, 20, 512} {
			s := filled(t, frames)
			x := made(t, s, form, frames-1, frames-5, frames-2, frames-4, frames-3)
			wantMap(t, x, s, 31, frames-1, true, api.OK)
			wantPages(t, x, s, [32]Entry{31: {There: true, Frame: frames - 1, Write: true}})
		}
	}
}

func TestMakeOfWrongArguments(t *testing.T) {
	s := filled(t, 20)
	before := frameBytes(t, s)
	wrong := func(s *store.Store, form int, frames []int) {
		t.Helper()
		handed := slices.Clone(frames)
		if x, e := Make(s, form, frames); x.Form != 0 || len(x.Frames) != 0 || e != api.ErrArg {
			t.Errorf("Make(%d frames, %d, %v) = %v, %d; want ErrArg", s.Frames(), form, frames, x, e)
		}
		if !slices.Equal(handed, frames) {
			t.Errorf("%v has become %v", handed, frames)
		}
	}
	for _, form := range forms {
		for _, frames := range [][]int{nil, {}, {1}, {1, 2}, {1, 2, 3}, {1, 2, 3, 4}, {1, 2, 3, 4, 5, 6}, {1, 2, 3, 4, 5, 6, 7, 8, 9, 10}} {
			wrong(s, form, frames)
		}
		for at := range 5 {
			for _, f := range []int{-1, 20, 21, -20, 512, 65535, 65536, 1 << 56, math.MaxInt, math.MinInt} {
				frames := []int{1, 2, 3, 4, 5}
				frames[at] = f
				wrong(s, form, frames)
			}
		}
		for _, none := range []*store.Store{nil, {}, store.New(0), store.New(1), store.New(4)} {
			wrong(none, form, []int{0, 1, 2, 3, 4})
			wrong(none, form, nil)
		}
	}
	for _, form := range noForms {
		wrong(s, form, []int{1, 2, 3, 4, 5})
		wrong(s, form, nil)
		wrong(nil, form, nil)
	}
	wantBytes(t, s, before)
}

func TestMakeKeepsNothingOfWhatIsHandedIn(t *testing.T) {
	s := store.New(10)
	room := []int{1, 2, 3, 4, 5, 77, 77}
	x := made(t, s, V1, room[:5]...)
	_ = append(x.Frames, 6, 7)
	if !slices.Equal(room, []int{1, 2, 3, 4, 5, 77, 77}) {
		t.Error(room)
	}
	x.Frames[0] = 9
	if room[0] != 1 {
		t.Error(room)
	}
}

// TestOrderOfWords: page p's entry is word p modulo 8 of the frame behind word p by 8 of the root.
func TestOrderOfWords(t *testing.T) {
	for _, form := range forms {
		s := store.New(60)
		frames := []int{30, 12, 7, 50, 3}
		x := made(t, s, form, frames...)
		want := frameBytes(t, s)
		var list [32]Entry
		for k := range 32 {
			page := k * 13 % 32
			list[page] = Entry{There: true, Frame: 59 - page, Write: page%3 == 0}
			wantMap(t, x, s, page, list[page].Frame, list[page].Write, api.OK)
			putWord(want, frames[1+page/8], page%8, plainPack(form, list[page]))
			wantBytes(t, s, want)
			wantPages(t, x, s, list)
		}
		for k := range 32 {
			page := k * 7 % 32
			list[page] = Entry{}
			wantUnmap(t, x, s, page, api.OK)
			putWord(want, frames[1+page/8], page%8, 0)
			wantBytes(t, s, want)
			wantPages(t, x, s, list)
		}
	}
}

func TestMapOverAndUnmapTwice(t *testing.T) {
	for _, form := range forms {
		s := store.New(8)
		x := made(t, s, form, 0, 1, 2, 3, 4)
		for range 2 {
			wantUnmap(t, x, s, 9, api.OK)
			wantPages(t, x, s, [32]Entry{})
		}
		for _, y := range []Entry{{true, 7, true}, {true, 7, false}, {true, 7, false}, {true, 6, false}, {true, 0, true}, {true, 2, false}} {
			wantMap(t, x, s, 9, y.Frame, y.Write, api.OK)
			wantPages(t, x, s, [32]Entry{9: y})
		}
		// One frame may be that of several pages.
		wantMap(t, x, s, 10, 2, true, api.OK)
		wantMap(t, x, s, 31, 2, false, api.OK)
		wantPages(t, x, s, [32]Entry{9: {true, 2, false}, 10: {true, 2, true}, 31: {true, 2, false}})
		wantUnmap(t, x, s, 10, api.OK)
		wantPages(t, x, s, [32]Entry{9: {true, 2, false}, 31: {true, 2, false}})
	}
}

func TestFirstAndLastPageAndFrame(t *testing.T) {
	for _, form := range forms {
		for _, frames := range []int{5, 6, 512} {
			s := store.New(frames)
			x := made(t, s, form, 4, 3, 2, 1, 0)
			wantMap(t, x, s, 0, 0, false, api.OK)
			wantMap(t, x, s, 31, frames-1, true, api.OK)
			wantPages(t, x, s, [32]Entry{0: {true, 0, false}, 31: {true, frames - 1, true}})
			before := frameBytes(t, s)
			for _, page := range noPages {
				wantMap(t, x, s, page, 0, true, api.ErrArg)
				wantMap(t, x, s, page, frames, true, api.ErrArg)
				wantUnmap(t, x, s, page, api.ErrArg)
				wantWalk(t, x, s, page, Entry{}, api.ErrArg)
			}
			for _, page := range []int{0, 5, 31} {
				for _, frame := range []int{frames, frames + 1, -1, -2, -512, 513, 65535, 65536, 65536 + 1, 1 << 32, 1 << 56, math.MaxInt, math.MinInt} {
					wantMap(t, x, s, page, frame, true, api.ErrArg)
					wantMap(t, x, s, page, frame, false, api.ErrArg)
				}
			}
			wantBytes(t, s, before)
		}
	}
}

func TestTablesWithoutFrames(t *testing.T) {
	s := filled(t, 6)
	for _, form := range append(forms, noForms...) {
		for _, frames := range [][]int{nil, {}} {
			x := Table{Form: form, Frames: frames}
			wantNone(t, x, s, api.ErrArg)
			wantNone(t, x, nil, api.ErrArg)
			for _, page := range noPages {
				wantWalk(t, x, s, page, Entry{}, api.ErrArg)
				wantUnmap(t, x, s, page, api.ErrArg)
				wantMap(t, x, s, page, 0, true, api.ErrArg)
			}
		}
	}
}

// TestRootThatIsNotInTheStore: the table has no frames there.
func TestRootThatIsNotInTheStore(t *testing.T) {
	for _, form := range forms {
		full := store.New(10)
		x := made(t, full, form, 5, 6, 7, 8, 9)
		for _, s := range []*store.Store{nil, {}, store.New(0), store.New(5)} {
			wantNone(t, x, s, api.ErrArg)
			wantMap(t, x, s, 0, 0, true, api.ErrArg)
		}
		for _, root := range []int{-1, 10, 65535, math.MaxInt, math.MinInt} {
			wantNone(t, Table{Form: form, Frames: []int{root, 6, 7, 8, 9}}, full, api.ErrArg)
		}
	}
}

// notOfTheRoot: words that the root must not have, in a store of 20 frames.
func notOfTheRoot(form int) []uint64 {
	words := []uint64{0, 2, 4, 0x500, 12345678, 1 << 62, 1 << 24, math.MaxUint64, plainPack(V1+V2-form, Entry{There: true, Frame: 8, Write: true})}
	for _, frame := range []int{20, 21, 511, 512, 65535} {
		words = append(words, plainPack(form, Entry{There: true, Frame: frame, Write: true}), plainPack(form, Entry{There: true, Frame: frame}))
	}
	return words
}

func TestRootsWordThatIsNoEntry(t *testing.T) {
	for _, form := range forms {
		for i := range 4 {
			for _, w := range notOfTheRoot(form) {
				s := store.New(20)
				x := made(t, s, form, 9, 8, 7, 6, 5)
				var list [32]Entry
				for page := range 32 {
					list[page] = Entry{There: true, Frame: 19 - page%7, Write: page%2 == 0}
					wantMap(t, x, s, page, list[page].Frame, list[page].Write, api.OK)
				}
				s.Save(9, i, w)
				before := frameBytes(t, s)
				for page := range 32 {
					if page/8 != i {
						continue
					}
					list[page] = Entry{}
					wantMap(t, x, s, page, 19, true, api.ErrFault)
					wantUnmap(t, x, s, page, api.ErrFault)
					// What is told first holds.
					wantMap(t, x, s, page, 20, true, api.ErrArg)
					wantMap(t, x, s, page, -1, true, api.ErrArg)
				}
				wantWalk(t, x, s, 32, Entry{}, api.ErrArg)
				wantUnmap(t, x, s, -1, api.ErrArg)
				wantMap(t, x, s, 32, 0, true, api.ErrArg)
				wantPages(t, x, s, list)
				wantBytes(t, s, before)
			}
		}
	}
}

// TestRootIsReadFromTheStore: where a root's word leads counts, not what the table's list says.
func TestRootIsReadFromTheStore(t *testing.T) {
	for _, form := range forms {
		s := store.New(20)
		x := made(t, s, form, 9, 8, 7, 6, 5)
		wantMap(t, x, s, 8, 17, true, api.OK)
		wantMap(t, x, s, 3, 16, false, api.OK)
		s.Save(9, 1, plainPack(form, Entry{There: true, Frame: 19})) // it needn't be to be written
		wantPages(t, x, s, [32]Entry{3: {true, 16, false}})
		want := frameBytes(t, s)
		wantMap(t, x, s, 12, 15, true, api.OK)
		putWord(want, 19, 4, plainPack(form, Entry{There: true, Frame: 15, Write: true}))
		wantBytes(t, s, want)
		wantPages(t, x, s, [32]Entry{3: {true, 16, false}, 12: {true, 15, true}})
		// Two words of the root that lead to one frame.
		s.Save(9, 3, plainPack(form, Entry{There: true, Frame: 8, Write: true}))
		wantPages(t, x, s, [32]Entry{3: {true, 16, false}, 12: {true, 15, true}, 27: {true, 16, false}})
		wantUnmap(t, x, s, 27, api.OK)
		wantPages(t, x, s, [32]Entry{12: {true, 15, true}})
		// The root alone is looked at.
		for _, frames := range [][]int{{9}, {9, 1}, {9, 0, 0, 0, 0}, {9, -1, 99, 8, 8, 8, 8}} {
			wantPages(t, Table{Form: form, Frames: frames}, s, [32]Entry{12: {true, 15, true}})
		}
		s.Save(9, 1, plainPack(form, Entry{There: true, Frame: 7, Write: true}))
		wantPages(t, x, s, [32]Entry{8: {true, 17, true}})
	}
}

func TestPagesWordThatIsNoEntry(t *testing.T) {
	for _, form := range forms {
		s := store.New(20)
		x := made(t, s, form, 9, 8, 7, 6, 5)
		for _, page := range []int{0, 7, 8, 21, 31} {
			leaf := 8 - page/8
			other := (page + 1) % 32
			wantMap(t, x, s, other, 11, true, api.OK)
			var rest [32]Entry
			rest[other] = Entry{There: true, Frame: 11, Write: true}
			for _, w := range []uint64{0, 2, 4, 0x500, 12345678, 1 << 62, 1 << 24, math.MaxUint64, plainPack(V1+V2-form, Entry{There: true, Frame: 18, Write: true})} {
				s.Save(leaf, page%8, w)
				before := frameBytes(t, s)
				wantPages(t, x, s, rest)
				wantBytes(t, s, before)
				// It is written over all the same.
				wantUnmap(t, x, s, page, api.OK)
				putWord(before, leaf, page%8, 0)
				wantBytes(t, s, before)
				s.Save(leaf, page%8, w)
				wantMap(t, x, s, page, 18, false, api.OK)
				putWord(before, leaf, page%8, plainPack(form, Entry{There: true, Frame: 18}))
				wantBytes(t, s, before)
			}
			// Its frame may be any.
			for _, frame := range []int{0, 9, 19, 20, 511, 512, 65534, 65535} {
				for _, write := range []bool{false, true} {
					y := Entry{There: true, Frame: frame, Write: write}
					s.Save(leaf, page%8, plainPack(form, y))
					list := rest
					list[page] = y
					wantPages(t, x, s, list)
				}
			}
			wantUnmap(t, x, s, page, api.OK)
			wantUnmap(t, x, s, other, api.OK)
		}
	}
}

func TestTablesOfNoForm(t *testing.T) {
	for _, form := range forms {
		s := store.New(8)
		x := made(t, s, form, 0, 1, 2, 3, 4)
		wantMap(t, x, s, 5, 7, true, api.OK)
		for _, none := range append([]int{V1 + V2 - form}, noForms...) {
			wantNone(t, Table{Form: none, Frames: x.Frames}, s, api.ErrFault)
		}
		wantPages(t, x, s, [32]Entry{5: {true, 7, true}})
	}
}

func TestAllOfNone(t *testing.T) {
	s := store.New(6)
	for _, x := range []Table{{}, {Form: V1}, {Form: V2, Frames: []int{}}, {Form: V1, Frames: []int{5}}, made(t, s, V2, 0, 1, 2, 3, 4)} {
		if l, m := x.All(s); len(l) != 0 || len(m) != 0 {
			t.Errorf("%v: %v, %v", x, l, m)
		}
		if l, m := x.All(nil); len(l) != 0 || len(m) != 0 {
			t.Errorf("%v, of nil: %v, %v", x, l, m)
		}
	}
}

func TestAllIsNewEachTime(t *testing.T) {
	s := store.New(9)
	x := made(t, s, V1, 0, 1, 2, 3, 4)
	list := [32]Entry{4: {true, 8, true}, 30: {true, 7, false}}
	for page, y := range list {
		if y.There {
			wantMap(t, x, s, page, y.Frame, y.Write, api.OK)
		}
	}
	l, m := x.All(s)
	_, _ = append(l, 9), append(m, Entry{})
	l[0], m[0] = 77, Entry{}
	wantPages(t, x, s, list)
	if l[0] != 77 || m[0] != (Entry{}) {
		t.Error(l, m)
	}
}

// TestManySteps holds several tables of both forms in one store against plain lists of where pages are, with pages and frames on both sides of every edge.
func TestManySteps(t *testing.T) {
	const frames = 24
	r := rand.New(rand.NewSource(1))
	type held struct {
		Table
		list [32]Entry
	}
	for range 20 {
		s := filled(t, frames)
		order := r.Perm(frames)
		var all []*held
		for i := range 4 {
			all = append(all, &held{Table: made(t, s, 1+(i+r.Intn(2))%2, order[5*i:5*i+5]...)})
		}
		want := frameBytes(t, s)
		for range 300 {
			x := all[r.Intn(len(all))]
			page, frame, write := r.Intn(36)-2, r.Intn(frames+4)-2, r.Intn(2) == 0
			y := Entry{There: true, Frame: frame, Write: write}
			err := api.OK
			if page < 0 || page > 31 {
				err = api.ErrArg
			}
			if r.Intn(3) == 0 {
				wantUnmap(t, x.Table, s, page, err)
				y = Entry{}
			} else {
				if frame < 0 || frame >= frames {
					err = api.ErrArg
				}
				wantMap(t, x.Table, s, page, frame, write, err)
			}
			if err == api.OK {
				x.list[page] = y
				putWord(want, x.Frames[1+page/8], page%8, plainPack(x.Form, y))
			}
			wantBytes(t, s, want)
			for _, x := range all {
				wantPages(t, x.Table, s, x.list)
			}
		}
	}
}

// P2: two stores that were told the same are the same, and answer the same, however often they are asked in between.
func TestSameStepsSameStore(t *testing.T) {
	for _, form := range forms {
		a, b := store.New(30), store.New(30)
		x, y := made(t, a, form, 4, 3, 2, 1, 0), made(t, b, form, 4, 3, 2, 1, 0)
		for k := range 100 {
			page := k * 11 % 32
			if k%4 == 3 {
				wantUnmap(t, x, a, page, api.OK)
				wantUnmap(t, y, b, page, api.OK)
			} else {
				wantMap(t, x, a, page, k%30, k%2 == 0, api.OK)
				y.All(b)
				y.Walk(b, page)
				y.Map(b, page, 30, true)
				wantMap(t, y, b, page, k%30, k%2 == 0, api.OK)
			}
			if !store.Same(a, b) || !bytes.Equal(frameBytes(t, a), frameBytes(t, b)) {
				t.Fatal("the stores differ")
			}
		}
	}
}
