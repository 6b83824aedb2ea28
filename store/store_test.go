package store

import (
	"bytes"
	"encoding/binary"
	"math"
	"math/rand"
	"testing"

	"hermitcrab/api"
)

// told is all that a store's calls tell: its frames, byte by byte.
func told(t *testing.T, s *Store) [][]byte {
	t.Helper()
	var all [][]byte
	for f := range s.Frames() {
		p, e := s.Read(f, 0, 256)
		if e != api.OK || len(p) != 256 {
			t.Fatalf("frame %d: %d bytes, %d", f, len(p), e)
		}
		all = append(all, p)
	}
	return all
}

func alike(a, b [][]byte) bool {
	if len(a) != len(b) {
		return false
	}
	for i := range a {
		if !bytes.Equal(a[i], b[i]) {
			return false
		}
	}
	return true
}

// filled: frames whose bytes all tell their place.
func filled(t *testing.T, frames int) *Store {
	t.Helper()
	s := New(frames)
	for f := range frames {
		p := make([]byte, 256)
		for i := range p {
			p[i] = byte(i*7 + f*31 + 1)
		}
		if e := s.Write(f, 0, p); e != api.OK {
			t.Fatal(e)
		}
	}
	return s
}

func TestNew(t *testing.T) {
	for frames, want := range map[int]int{
		0: 0, 1: 1, 2: 2, 511: 511, 512: 512, 513: 512, 1000: 512, -1: 0, -512: 0, math.MaxInt: 512, math.MinInt: 0,
	} {
		s := New(frames)
		if s == nil || s.Frames() != want {
			t.Fatalf("New(%d): %d frames; want %d", frames, s.Frames(), want)
		}
		for f, p := range told(t, s) {
			if !bytes.Equal(p, make([]byte, 256)) {
				t.Fatalf("New(%d): frame %d is %x", frames, f, p)
			}
		}
		if _, e := s.Read(want, 0, 0); e != api.ErrArg {
			t.Errorf("New(%d): frame %d is there", frames, want)
		}
	}
}

func TestWrittenAndReadAgain(t *testing.T) {
	s := New(3)
	for _, c := range []struct {
		frame, off int
		p          string
	}{
		{0, 0, "a"}, {0, 255, "z"}, {1, 250, "abcdef"}, {2, 0, string(bytes.Repeat([]byte("0123456789abcdef"), 16))}, {1, 1, "bcd"}, {1, 100, ""}, {1, 256, ""}, {2, 0, ""},
	} {
		if e := s.Write(c.frame, c.off, []byte(c.p)); e != api.OK {
			t.Errorf("Write(%d, %d, %q): %d", c.frame, c.off, c.p, e)
		}
		if p, e := s.Read(c.frame, c.off, len(c.p)); string(p) != c.p || e != api.OK {
			t.Errorf("Read(%d, %d, %d) = %q, %d; want %q", c.frame, c.off, len(c.p), p, e, c.p)
		}
	}
	if p, e := s.Read(1, 254, 2); string(p) != "ef" || e != api.OK {
		t.Errorf("%q, %d", p, e)
	}
	if p, e := s.Read(1, 0, 6); string(p) != "\x00bcd\x00\x00" || e != api.OK {
		t.Errorf("%q, %d", p, e)
	}
	if p, e := s.Read(0, 0, 256); e != api.OK || p[0] != 'a' || p[255] != 'z' || !bytes.Equal(p[1:255], make([]byte, 254)) {
		t.Errorf("%q, %d", p, e)
	}
}

func TestWriteOfNoBytes(t *testing.T) {
	s := filled(t, 2)
	before := told(t, s)
	for _, p := range [][]byte{nil, {}} {
		for _, off := range []int{0, 1, 255, 256} {
			if e := s.Write(1, off, p); e != api.OK {
				t.Errorf("Write(1, %d) of none: %d", off, e)
			}
		}
		for _, off := range []int{-1, 257, math.MaxInt, math.MinInt} {
			if e := s.Write(1, off, p); e != api.ErrArg {
				t.Errorf("Write(1, %d) of none: %d", off, e)
			}
		}
		for _, frame := range []int{-1, 2, math.MaxInt, math.MinInt} {
			if e := s.Write(frame, 0, p); e != api.ErrArg {
				t.Errorf("Write(%d, 0) of none: %d", frame, e)
			}
		}
	}
	if !alike(told(t, s), before) {
		t.Error("something has changed")
	}
}

var noFrames = []int{-1, -2, 2, 3, 512, math.MaxInt, math.MinInt, 1 << 32, 1 << 56, 1<<56 + 1, -1 << 56}

func TestPlacesThatThereAreNoneOf(t *testing.T) {
	s := filled(t, 2)
	before := told(t, s)
	read := func(frame, off, n int) {
		if p, e := s.Read(frame, off, n); len(p) != 0 || e != api.ErrArg {
			t.Errorf("Read(%d, %d, %d) = %x, %d", frame, off, n, p, e)
		}
		if n < 0 || n > 1000 {
			return
		}
		if e := s.Write(frame, off, make([]byte, n)); e != api.ErrArg {
			t.Errorf("Write(%d, %d, %d bytes): %d", frame, off, n, e)
		}
	}
	for _, frame := range noFrames {
		for _, off := range []int{0, 8, 256} {
			read(frame, off, 0)
			read(frame, off, 1)
			read(frame, off, 256)
		}
	}
	for _, c := range [][2]int{
		{0, 257}, {1, 256}, {250, 7}, {255, 2}, {256, 1}, {257, 0}, {257, -1}, {512, 0}, {-1, 0}, {-1, 1}, {-1, 2}, {-256, 256}, {0, -1}, {8, -8}, {256, -1}, {300, -44},
		{0, math.MaxInt}, {1, math.MaxInt}, {256, math.MaxInt}, {math.MaxInt, 0}, {math.MaxInt, 1}, {math.MaxInt, math.MaxInt}, {math.MinInt, 0}, {math.MinInt, math.MaxInt}, {0, math.MinInt}, {math.MinInt, math.MinInt}, {math.MaxInt, math.MinInt}, {-1, math.MinInt}, {256, math.MinInt},
	} {
		for frame := range 2 {
			read(frame, c[0], c[1])
		}
	}
	if !alike(told(t, s), before) {
		t.Error("something has changed")
	}
}

func TestWords(t *testing.T) {
	s := New(2)
	if e := s.Save(0, 1, 5); e != api.OK {
		t.Fatal(e)
	}
	if p, e := s.Read(0, 8, 1); !bytes.Equal(p, []byte{5}) || e != api.OK {
		t.Errorf("%x, %d", p, e)
	}
	for frame := range 2 {
		for i := range 32 {
			w := uint64(0x0123456789abcdef)*uint64(i+1) + uint64(frame)<<63
			if e := s.Save(frame, i, w); e != api.OK {
				t.Fatalf("Save(%d, %d): %d", frame, i, e)
			}
			if p, _ := s.Read(frame, 8*i, 8); binary.LittleEndian.Uint64(p) != w {
				t.Fatalf("Save(%d, %d, %x): %x", frame, i, w, p)
			}
		}
	}
	for frame := range 2 {
		for i := range 32 {
			want := uint64(0x0123456789abcdef)*uint64(i+1) + uint64(frame)<<63
			if w, e := s.Load(frame, i); w != want || e != api.OK {
				t.Fatalf("Load(%d, %d) = %x, %d; want %x", frame, i, w, e, want)
			}
		}
	}
	if s.Write(1, 248, []byte{1, 2, 3, 4, 5, 6, 7, 8}) != api.OK {
		t.Error("Write")
	}
	if w, e := s.Load(1, 31); w != 0x0807060504030201 || e != api.OK {
		t.Errorf("%x, %d", w, e)
	}
	if e := s.Save(1, 31, math.MaxUint64); e != api.OK {
		t.Error(e)
	}
	if w, e := s.Load(1, 31); w != math.MaxUint64 || e != api.OK {
		t.Errorf("%x, %d", w, e)
	}
}

func TestWordsThatThereAreNoneOf(t *testing.T) {
	s := filled(t, 2)
	before := told(t, s)
	at := func(frame, i int) {
		if w, e := s.Load(frame, i); w != 0 || e != api.ErrArg {
			t.Errorf("Load(%d, %d) = %x, %d", frame, i, w, e)
		}
		if e := s.Save(frame, i, 7); e != api.ErrArg {
			t.Errorf("Save(%d, %d): %d", frame, i, e)
		}
	}
	for _, frame := range noFrames {
		at(frame, 0)
		at(frame, 31)
		at(frame, 32)
	}
	for _, i := range []int{-1, -31, -32, 32, 33, 64, 256, math.MaxInt, math.MinInt, 1 << 61, 1<<61 + 1, -1 << 61, 1 << 62} {
		at(0, i)
		at(1, i)
	}
	if !alike(told(t, s), before) {
		t.Error("something has changed")
	}
}

func TestClear(t *testing.T) {
	s := filled(t, 3)
	before := told(t, s)
	if e := s.Clear(1); e != api.OK {
		t.Fatal(e)
	}
	if got := told(t, s); !alike(got, [][]byte{before[0], make([]byte, 256), before[2]}) {
		t.Errorf("%x", got)
	}
}

func TestCopy(t *testing.T) {
	s := filled(t, 3)
	before := told(t, s)
	if e := s.Copy(0, 2); e != api.OK {
		t.Fatal(e)
	}
	if got := told(t, s); !alike(got, [][]byte{before[2], before[1], before[2]}) {
		t.Errorf("%x", got)
	}
	if e := s.Copy(1, 1); e != api.OK {
		t.Fatal(e)
	}
	if got := told(t, s); !alike(got, [][]byte{before[2], before[1], before[2]}) {
		t.Errorf("%x", got)
	}
	// From then on they are two.
	s.Save(2, 0, 99)
	if w, _ := s.Load(0, 0); w == 99 {
		t.Error("a copy has changed with its source")
	}
	s.Clear(0)
	if got := told(t, s); !bytes.Equal(got[2][8:], before[2][8:]) {
		t.Error("a source has changed with its copy")
	}
}

func TestFramesThatThereAreNoneOf(t *testing.T) {
	s := filled(t, 2)
	before := told(t, s)
	for _, f := range noFrames {
		if e := s.Clear(f); e != api.ErrArg {
			t.Errorf("Clear(%d): %d", f, e)
		}
		for _, c := range [][2]int{{f, 0}, {0, f}, {f, 1}, {1, f}, {f, f}} {
			if e := s.Copy(c[0], c[1]); e != api.ErrArg {
				t.Errorf("Copy(%d, %d): %d", c[0], c[1], e)
			}
		}
	}
	if !alike(told(t, s), before) {
		t.Error("something has changed")
	}
}

func TestTwin(t *testing.T) {
	for _, frames := range []int{0, 1, 5, 512} {
		s := filled(t, frames)
		before := told(t, s)
		twin := s.Twin()
		if twin == nil || twin == s || !alike(told(t, twin), before) || !Same(s, twin) || !Same(twin, s) {
			t.Fatalf("%d frames: the twin is another one", frames)
		}
		if frames == 0 {
			continue
		}
		s.Save(0, 0, 1)
		s.Clear(frames - 1)
		if !alike(told(t, twin), before) || Same(s, twin) {
			t.Errorf("%d frames: the twin has changed with the store", frames)
		}
		before = told(t, s)
		twin.Write(0, 3, []byte("xyz"))
		twin.Save(frames-1, 31, 1)
		if !alike(told(t, s), before) || Same(s, twin) {
			t.Errorf("%d frames: the store has changed with the twin", frames)
		}
	}
}

func TestSame(t *testing.T) {
	if !Same(New(2), New(2)) || Same(New(2), New(3)) || Same(New(3), New(2)) || Same(New(1), New(0)) || !Same(New(512), New(600)) {
		t.Error("numbers of frames")
	}
	a, b := filled(t, 4), filled(t, 4)
	if !Same(a, b) || !Same(a, a) {
		t.Error("alike, but not the Same")
	}
	for _, c := range [][2]int{{0, 0}, {0, 255}, {1, 0}, {2, 128}, {3, 0}, {3, 255}} {
		p, _ := b.Read(c[0], c[1], 1)
		b.Write(c[0], c[1], []byte{p[0] ^ 0x80})
		if Same(a, b) || Same(b, a) {
			t.Errorf("byte %d of frame %d is another one, but they are the Same", c[1], c[0])
		}
		b.Write(c[0], c[1], p)
		if !Same(a, b) {
			t.Error("alike again, but not the Same")
		}
	}
}

func TestObjectsWithoutFrames(t *testing.T) {
	for name, s := range map[string]*Store{"nil": nil, "zero": {}, "New(0)": New(0)} {
		if n := s.Frames(); n != 0 {
			t.Errorf("%s: %d frames", name, n)
		}
		for _, f := range []int{0, 1, -1} {
			if p, e := s.Read(f, 0, 0); len(p) != 0 || e != api.ErrArg {
				t.Errorf("%s: Read: %x, %d", name, p, e)
			}
			if e := s.Write(f, 0, nil); e != api.ErrArg {
				t.Errorf("%s: Write: %d", name, e)
			}
			if w, e := s.Load(f, 0); w != 0 || e != api.ErrArg {
				t.Errorf("%s: Load: %x, %d", name, w, e)
			}
			if s.Save(f, 0, 1) != api.ErrArg || s.Clear(f) != api.ErrArg || s.Copy(f, f) != api.ErrArg {
				t.Errorf("%s: frame %d is there", name, f)
			}
		}
		if twin := s.Twin(); (twin == nil) != (s == nil) || twin.Frames() != 0 {
			t.Errorf("%s: Twin: %v", name, twin)
		}
		if !Same(s, nil) || !Same(nil, s) || !Same(s, New(0)) || !Same(s, &Store{}) || Same(s, New(1)) || Same(New(1), s) {
			t.Errorf("%s: Same", name)
		}
	}
}

func TestMemory(t *testing.T) {
	s := New(2)
	p := []byte("abcdef")
	s.Write(0, 10, p)
	if string(p) != "abcdef" {
		t.Errorf("what was handed in is %q", p)
	}
	clear(p)
	got, _ := s.Read(0, 10, 6)
	if string(got) != "abcdef" {
		t.Errorf("what was handed in is the store's: %q", got)
	}
	got[0] = 'x'
	_ = append(got[:3], "uvwxyz"...)
	if again, _ := s.Read(0, 10, 12); string(again) != "abcdef\x00\x00\x00\x00\x00\x00" {
		t.Errorf("what was answered is the store's: %q", again)
	}
	last, _ := s.Read(0, 256, 0)
	_ = append(last, 1, 2, 3)
	if again, _ := s.Read(1, 0, 3); !bytes.Equal(again, make([]byte, 3)) {
		t.Errorf("what was answered is the store's: %x", again)
	}
}

// TestManySteps holds a store against frames that are arrays of bytes, with places on both sides of every edge.
func TestManySteps(t *testing.T) {
	const frames = 4
	r := rand.New(rand.NewSource(1))
	s := New(frames)
	var model [frames][256]byte
	for range 50000 {
		f, g, off, n, i, w := r.Intn(frames+2)-1, r.Intn(frames+2)-1, r.Intn(300)-20, r.Intn(300)-20, r.Intn(40)-4, r.Uint64()
		there, other := f >= 0 && f < frames, g >= 0 && g < frames
		inside := there && off >= 0 && n >= 0 && off+n <= 256
		word := there && i >= 0 && i < 32
		var e api.Errno
		ok := false
		switch r.Intn(6) {
		case 0:
			var p []byte
			p, e = s.Read(f, off, n)
			ok = inside
			if ok && !bytes.Equal(p, model[f][off:off+n]) || !ok && len(p) != 0 {
				t.Fatalf("Read(%d, %d, %d) = %x", f, off, n, p)
			}
		case 1:
			n = max(n, 0)
			p := make([]byte, n)
			r.Read(p)
			e = s.Write(f, off, p)
			if ok = there && off >= 0 && off+n <= 256; ok {
				copy(model[f][off:], p)
			}
		case 2:
			var got uint64
			got, e = s.Load(f, i)
			ok = word
			if ok && got != binary.LittleEndian.Uint64(model[f][8*i:]) || !ok && got != 0 {
				t.Fatalf("Load(%d, %d) = %x", f, i, got)
			}
		case 3:
			e = s.Save(f, i, w)
			if ok = word; ok {
				binary.LittleEndian.PutUint64(model[f][8*i:], w)
			}
		case 4:
			e = s.Clear(f)
			if ok = there; ok {
				model[f] = [256]byte{}
			}
		case 5:
			e = s.Copy(f, g)
			if ok = there && other; ok {
				model[f] = model[g]
			}
		}
		if ok != (e == api.OK) || !ok && e != api.ErrArg {
			t.Fatalf("frames %d, %d, off %d, n %d, i %d: %d", f, g, off, n, i, e)
		}
	}
	for f, p := range told(t, s) {
		if !bytes.Equal(p, model[f][:]) {
			t.Errorf("frame %d: %x; want %x", f, p, model[f])
		}
	}
}
