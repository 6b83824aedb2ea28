package code

import "testing"

// The chapter's lists, told once more here, so that the tests don't lean on the program's own.
var kinds = []struct {
	has   string
	codes []byte
}{
	{"", []byte{0, 21, 22}},
	{"AN", []byte{1, 2, 18, 19}},
	{"N", []byte{20}},
	{"ABN", []byte{11, 12, 13, 14, 15, 16, 17}},
	{"ABC", []byte{3, 4, 5, 6, 7, 8, 9, 10}},
}

func hasField(code byte, field rune) bool {
	for _, k := range kinds {
		for _, c := range k.codes {
			if c != code {
				continue
			}
			for _, f := range k.has {
				if f == field {
					return true
				}
			}
		}
	}
	return false
}

// mayBe says what the chapter says of Right, field by field.
func mayBe(o Op) bool {
	if o.Code > 22 {
		return false
	}
	for field, r := range map[rune]byte{'A': o.A, 'B': o.B, 'C': o.C} {
		if r > 15 || r != 0 && !hasField(o.Code, field) {
			return false
		}
	}
	if o.Code == 18 || o.Code == 19 {
		return o.N >= 0 && o.N <= 8
	}
	return o.N == 0 || hasField(o.Code, 'N')
}

// wordOf lays the fields out by sums, not by bits.
func wordOf(o Op) uint32 {
	n := int64(o.N)
	if n < 0 {
		n += 1 << 16
	}
	return uint32(int64(o.Code)*(1<<26) + int64(o.A)*(1<<22) + int64(o.B)*(1<<18) + n + int64(o.C))
}

func TestNumbers(t *testing.T) {
	operations := []byte{Nop, Li, Lu, Add, Sub, Mul, And, Or, Xor, Shl, Shr, Addi, Ld, St, Beq, Bne, Blt, Jal, Rd, Wr, Hvc, Wfi, Ret, Last}
	for i, o := range operations {
		if int(o) != i {
			t.Errorf("operation %d has the number %d", i, o)
		}
	}
	for i, r := range []int{Base, Vec, EPC, Cause, Addr, Mask, Open, Clock, Me, Regs} {
		if r != i {
			t.Errorf("register %d has the number %d", i, r)
		}
	}
}

func TestKindsCoverAllOperations(t *testing.T) {
	seen := 0
	for _, k := range kinds {
		seen += len(k.codes)
	}
	if seen != int(Last) {
		t.Errorf("%d operations of %d", seen, Last)
	}
}

func TestWordsOfOrdinaryInstructions(t *testing.T) {
	for _, c := range []struct {
		o Op
		w uint32
	}{
		{Op{}, 0},
		{Op{Code: Li, A: 1, N: 5}, 0x04400005},
		{Op{Code: Lu, A: 15, N: -1}, 0x0bc0ffff},
		{Op{Code: Add, A: 1, B: 2, C: 3}, 0x0c480003},
		{Op{Code: Shr, A: 15, B: 15, C: 15}, 0x2bfc000f},
		{Op{Code: Addi, A: 1, B: 1, N: 32767}, 0x2c447fff},
		{Op{Code: Ld, A: 2, B: 3, N: -32768}, 0x308c8000},
		{Op{Code: St, A: 2, B: 3, N: 8}, 0x348c0008},
		{Op{Code: Beq, A: 10, B: 10, N: -1}, 0x3aa8ffff},
		{Op{Code: Jal, A: 14, B: 0, N: 64}, 0x47800040},
		{Op{Code: Rd, A: 4, N: Me}, 0x49000008},
		{Op{Code: Wr, A: 4, N: Base}, 0x4d000000},
		{Op{Code: Hvc, N: 1}, 0x50000001},
		{Op{Code: Hvc, N: -1}, 0x5000ffff},
		{Op{Code: Wfi}, 0x54000000},
		{Op{Code: Ret}, 0x58000000},
	} {
		if w, ok := Encode(c.o); w != c.w || !ok {
			t.Errorf("Encode(%v) = %08x, %v; want %08x", c.o, w, ok, c.w)
		}
		if o, ok := Decode(c.w); o != c.o || !ok {
			t.Errorf("Decode(%08x) = %v, %v; want %v", c.w, o, ok, c.o)
		}
		if !Right(c.o) {
			t.Errorf("Right(%v) = false", c.o)
		}
	}
}

func TestWrongInstructions(t *testing.T) {
	for _, o := range []Op{
		{Code: Last}, {Code: Last + 1}, {Code: 64}, {Code: 64 + Li, A: 1}, {Code: 255},
		{A: 1}, {B: 1}, {C: 1}, {N: 1}, {N: -1},
		{Code: Wfi, A: 1}, {Code: Ret, N: 1},
		{Code: Li, A: 16}, {Code: Li, B: 1}, {Code: Lu, C: 1},
		{Code: Rd, N: Regs}, {Code: Wr, N: Regs}, {Code: Rd, N: -1}, {Code: Wr, N: -1}, {Code: Rd, N: -32768}, {Code: Wr, N: 32767}, {Code: Wr, A: 16}, {Code: Rd, B: 1},
		{Code: Hvc, A: 1}, {Code: Hvc, B: 1}, {Code: Hvc, C: 1},
		{Code: Addi, A: 16}, {Code: Ld, B: 16}, {Code: St, C: 1}, {Code: Jal, B: 255},
		{Code: Add, A: 16}, {Code: Sub, B: 16}, {Code: Mul, C: 16}, {Code: Xor, N: 1}, {Code: Shl, N: -1},
	} {
		if Right(o) {
			t.Errorf("Right(%v) = true", o)
		}
		if w, ok := Encode(o); w != 0 || ok {
			t.Errorf("Encode(%v) = %08x, %v", o, w, ok)
		}
	}
}

func TestWrongWords(t *testing.T) {
	for _, w := range []uint32{
		1, 1 << 15, 1 << 16, 1 << 17, 1 << 18, 1 << 22,
		uint32(Last) << 26, 63 << 26, 0xffffffff,
		0x04410005, 0x04420005, 0x04430005, 0x04440005,
		0x0c480013, 0x0c488003, 0x0c490003, 0x0c4a0003,
		0x2c450001, 0x2c460001,
		0x48000009, 0x4c000009, 0x4800ffff, 0x4c00ffff, 0x48040000,
		0x50400001, 0x50040001, 0x50010001,
		0x54000001, 0x58000001, 0x58400000,
	} {
		if o, ok := Decode(w); o != (Op{}) || ok {
			t.Errorf("Decode(%08x) = %v, %v", w, o, ok)
		}
	}
}

// TestFieldsAtTheirEdges goes through every operation's number with every field at its edges.
func TestFieldsAtTheirEdges(t *testing.T) {
	edges := []byte{0, 1, 14, 15, 16, 17, 255}
	numbers := []int16{-32768, -1, 0, 1, 7, 8, 9, 15, 16, 32767}
	for code := range 256 {
		for _, a := range edges {
			for _, b := range edges {
				for _, c := range edges {
					for _, n := range numbers {
						hold(t, Op{byte(code), a, b, c, n})
					}
				}
			}
		}
	}
}

func hold(t *testing.T, o Op) {
	want, is := uint32(0), mayBe(o)
	if is {
		want = wordOf(o)
	}
	if Right(o) != is {
		t.Fatalf("Right(%v) = %v", o, !is)
	}
	w, ok := Encode(o)
	if w != want || ok != is {
		t.Fatalf("Encode(%v) = %08x, %v; want %08x, %v", o, w, ok, want, is)
	}
	if !is {
		return
	}
	if back, ok := Decode(w); back != o || !ok {
		t.Fatalf("Decode(%08x) = %v, %v; want %v", w, back, ok, o)
	}
}

// TestEveryUpperHalf goes through all upper halves of words; made holds what the model makes of all that may be.
func TestEveryUpperHalf(t *testing.T) {
	lower := []uint32{0, 1, 7, 8, 9, 15, 16, 31, 255, 4096, 0x7fff, 0x8000, 0xfff0, 0xffff}
	made := allWords(lower)
	for upper := range uint32(1 << 16) {
		for _, low := range lower {
			w := upper<<16 | low
			want, is := made[w]
			if o, ok := Decode(w); o != want || ok != is {
				t.Fatalf("Decode(%08x) = %v, %v; want %v, %v", w, o, ok, want, is)
			}
		}
	}
}

func allWords(lower []uint32) map[uint32]Op {
	made := map[uint32]Op{}
	for code := range byte(23) {
		for a := range byte(16) {
			for b := range byte(16) {
				for _, low := range lower {
					o := Op{Code: code, A: a, B: b, N: int16(low)}
					if hasField(code, 'C') && low < 16 {
						o.C, o.N = byte(low), 0
					}
					if mayBe(o) {
						made[wordOf(o)] = o
					}
				}
			}
		}
	}
	return made
}

func FuzzDecode(f *testing.F) {
	f.Add(uint32(0x04400005))
	f.Add(uint32(0x0c480013))
	f.Fuzz(func(t *testing.T, w uint32) {
		o, ok := Decode(w)
		if !ok {
			if o != (Op{}) {
				t.Errorf("Decode(%08x) = %v beside false", w, o)
			}
			return
		}
		if back, is := Encode(o); back != w || !is || !mayBe(o) {
			t.Errorf("Decode(%08x) = %v, of which Encode makes %08x, %v", w, o, back, is)
		}
	})
}
