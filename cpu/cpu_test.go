package cpu

import (
	"encoding/binary"
	"math"
	"math/big"
	"math/rand"
	"slices"
	"testing"

	"hermitcrab/api"
	"hermitcrab/code"
	"hermitcrab/line"
	"hermitcrab/seat"
	"hermitcrab/text"
	"hermitcrab/word"
)

const greatest = math.MaxUint64

var (
	values   = []uint64{0, 1, 2, 3, 4, 7, 8, 63, 64, 65, 127, 128, 255, 256, 1<<16 - 1, 1 << 16, 1<<32 - 1, 1 << 32, 1<<48 - 1, 1 << 48, 1<<63 - 1, 1 << 63, 1<<63 + 1, greatest - 64, greatest - 1, greatest}
	edges    = []int16{0, 1, 2, 3, 4, 5, 8, 9, -1, -2, -4, -8, 255, 256, 32766, 32767, -32767, -32768}
	refusals = []api.Errno{api.ErrArg, api.ErrNone, api.ErrFull, api.ErrForm, api.ErrShort, api.ErrLong, api.ErrOwner, api.ErrUsed, api.ErrQuota, api.ErrState, api.ErrFault, api.ErrSum, api.ErrBack, -1, 14}
)

// ram is a guest's whole memory, of which pages may be shut.
type ram struct {
	p      [api.MaxPages][api.Page]byte
	noLoad [api.MaxPages]api.Errno
	noSave [api.MaxPages]api.Errno
	calls  int
	wrong  bool // it was asked for what no guest has
}

func (m *ram) asked(page, off, n int) bool {
	m.calls++
	if page < 0 || page >= api.MaxPages || off < 0 || n < 1 || off+n > api.Page {
		m.wrong = true
		return false
	}
	return true
}

func (m *ram) Load(page, off, n int) ([]byte, api.Errno) {
	if !m.asked(page, off, n) {
		return nil, api.ErrArg
	}
	if e := m.noLoad[page]; e != api.OK {
		return nil, e
	}
	return slices.Clone(m.p[page][off : off+n]), api.OK
}

func (m *ram) Save(page, off int, p []byte) api.Errno {
	if !m.asked(page, off, len(p)) {
		return api.ErrArg
	}
	if e := m.noSave[page]; e != api.OK {
		return e
	}
	copy(m.p[page][off:], p)
	return api.OK
}

func (m *ram) word(at uint64) uint64 {
	return binary.LittleEndian.Uint64(m.p[at/256][at%256:])
}

func (m *ram) setWord(at, w uint64) {
	binary.LittleEndian.PutUint64(m.p[at/256][at%256:], w)
}

func (m *ram) setCode(at uint64, w uint32) {
	binary.LittleEndian.PutUint32(m.p[at/256][at%256:], w)
}

// lay writes lines of instructions from an address on.
func (m *ram) lay(t *testing.T, at uint64, lines string) {
	t.Helper()
	p, n, e := text.Lay(lines)
	if e != api.OK {
		t.Fatalf("line %d of %q: %d", n, lines, e)
	}
	copy(m.p[at/256][at%256:], p)
}

// plain is the chapter told once more, as plainly as can be: memory is one row of bytes, and numbers are whole ones.
type plain struct {
	s    *api.Seat
	m    *ram
	time uint64
	me   int
}

// at: where an address of the seat stands in all bytes; -1: a fault.
func (x plain) at(addr uint64, size uint64, write bool) int {
	const all = api.MaxPages * api.Page
	if addr%size != 0 || addr >= all {
		return -1
	}
	at := addr
	if x.s.Base != 0 {
		page := x.s.Base / api.Page
		if page > 31 || x.m.noLoad[page] != api.OK {
			return -1
		}
		w := x.m.word(page*api.Page + addr/api.Page*8)
		if w%2 == 0 || write && w/2%2 == 0 || w/256 > 31 {
			return -1
		}
		at = w/256*256 + addr%256
	}
	if write && x.m.noSave[at/256] != api.OK || !write && x.m.noLoad[at/256] != api.OK {
		return -1
	}
	return int(at)
}

func (x plain) trap(cause, addr uint64) Exit {
	if x.s.Vec == 0 {
		x.s.State = api.Dead
		return Exit{Died, cause}
	}
	x.s.EPC = x.s.PC
	x.s.PC = x.s.Vec
	x.s.Cause = cause
	x.s.Addr = addr
	x.s.Open = false
	return Exit{Trap, cause}
}

func (x plain) step() Exit {
	if x.s.State != api.Ready {
		return Exit{Kind: Idle}
	}
	for n := range 8 {
		if x.s.Open && x.s.Pend>>n%2 == 1 && x.s.Mask>>n%2 == 1 {
			x.s.Pend -= 1 << n
			return x.trap(16+uint64(n), 0)
		}
	}
	at := x.at(x.s.PC, 4, false)
	if at < 0 {
		return x.trap(2, x.s.PC)
	}
	w := binary.LittleEndian.Uint32(x.m.p[at/256][at%256:])
	o, ok := code.Decode(w)
	if !ok {
		return x.trap(1, uint64(w))
	}
	return x.do(o)
}

// whole is a number of any size as a word.
func whole(n *big.Int) uint64 {
	return new(big.Int).And(n, new(big.Int).SetUint64(greatest)).Uint64()
}

// signed: a word as a number that may be below 0.
func signed(w uint64) *big.Int {
	n := new(big.Int).SetUint64(w)
	if w >= 1<<63 {
		n.Sub(n, new(big.Int).Lsh(big.NewInt(1), 64))
	}
	return n
}

func bits(b, c uint64, f func(b, c bool) bool) uint64 {
	w := uint64(0)
	for i := range 64 {
		if f(b>>i%2 == 1, c>>i%2 == 1) {
			w += 1 << i
		}
	}
	return w
}

func (x plain) do(o code.Op) Exit {
	s, done := x.s, Exit{Kind: Done}
	a := s.R[o.A]
	b, c, n := new(big.Int).SetUint64(s.R[o.B]), new(big.Int).SetUint64(s.R[o.C]), big.NewInt(int64(o.N))
	sum := whole(new(big.Int).Add(b, n))
	pc := whole(new(big.Int).Add(new(big.Int).SetUint64(s.PC), big.NewInt(4)))
	far := whole(new(big.Int).Add(new(big.Int).SetUint64(s.PC), new(big.Int).Mul(big.NewInt(4), n)))
	r := a
	switch o.Code {
	case code.Li:
		r = whole(n)
	case code.Lu:
		r = whole(new(big.Int).Add(new(big.Int).Mul(n, big.NewInt(65536)), big.NewInt(int64(a%65536))))
	case code.Add:
		r = whole(new(big.Int).Add(b, c))
	case code.Sub:
		r = whole(new(big.Int).Sub(b, c))
	case code.Mul:
		r = whole(new(big.Int).Mul(b, c))
	case code.And:
		r = bits(s.R[o.B], s.R[o.C], func(b, c bool) bool { return b && c })
	case code.Or:
		r = bits(s.R[o.B], s.R[o.C], func(b, c bool) bool { return b || c })
	case code.Xor:
		r = bits(s.R[o.B], s.R[o.C], func(b, c bool) bool { return b != c })
	case code.Shl:
		r = whole(new(big.Int).Lsh(b, uint(s.R[o.C]%64)))
	case code.Shr:
		r = whole(new(big.Int).Rsh(b, uint(s.R[o.C]%64)))
	case code.Addi:
		r = sum
	case code.Ld:
		at := x.at(sum, 8, false)
		if at < 0 {
			return x.trap(3, sum)
		}
		r = x.m.word(uint64(at))
	case code.St:
		at := x.at(sum, 8, true)
		if at < 0 {
			return x.trap(4, sum)
		}
		x.m.setWord(uint64(at), a)
	case code.Beq:
		if a == s.R[o.B] {
			pc = far
		}
	case code.Bne:
		if a != s.R[o.B] {
			pc = far
		}
	case code.Blt:
		if signed(a).Cmp(signed(s.R[o.B])) < 0 {
			pc = far
		}
	case code.Jal:
		r, pc = pc, sum
	case code.Rd:
		r = x.rd(int(o.N))
	case code.Wr:
		if o.N > 6 {
			return x.trap(1, s.PC)
		}
		x.wr(int(o.N), a)
	case code.Hvc:
		done = Exit{Hyper, whole(n)}
	case code.Wfi:
		if bits(uint64(s.Pend), uint64(s.Mask), func(b, c bool) bool { return b && c }) == 0 {
			s.State = api.Waits
			done.Kind = Wait
		}
	case code.Ret:
		pc = s.EPC
		s.Open = true
	}
	s.R[o.A] = r
	s.PC = pc
	return done
}

func (x plain) rd(n int) uint64 {
	open := uint64(0)
	if x.s.Open {
		open = 1
	}
	return []uint64{x.s.Base, x.s.Vec, x.s.EPC, x.s.Cause, x.s.Addr, uint64(x.s.Mask), open, x.time, uint64(x.me)}[n]
}

func (x plain) wr(n int, v uint64) {
	switch n {
	case 0:
		x.s.Base = v
	case 1:
		x.s.Vec = v
	case 2:
		x.s.EPC = v
	case 3:
		x.s.Cause = v
	case 4:
		x.s.Addr = v
	case 5:
		x.s.Mask = uint32(v % 256)
	case 6:
		x.s.Open = v%2 == 1
	}
}

// same makes one step by the package and by the plain one, and holds all against one another: what it comes to, the seat, and every byte.
func same(t *testing.T, s *api.Seat, m *ram, time uint64, me int) Exit {
	t.Helper()
	ws, wm, was := *s, *m, *s
	want := plain{&ws, &wm, time, me}.step()
	got := Step(s, m, time, me)
	if got != want || *s != ws || m.p != wm.p {
		t.Fatalf("Step of %+v = %v, %+v;\nwant %v, %+v (bytes alike: %v)", was, got, *s, want, ws, m.p == wm.p)
	}
	if m.wrong {
		t.Fatalf("Step of %+v asked the bus for what no guest has", was)
	}
	return got
}

// away is where the pages of spread lead: no page to itself, and each to another one.
func away(page uint64) uint64 {
	return (page*7 + 3) % 32
}

const tables = 6 // the page of translations of spread

// spread: a memory of words of which no two are alike, with a page of translations, by which every page is there, and to be written; only the page itself doesn't come into sight, so that no store goes into it.
func spread() *ram {
	m := &ram{}
	for at := uint64(0); at < api.MaxPages*api.Page; at += 8 {
		m.setWord(at, 0xfe00000000000000+at*0x10001)
	}
	clear(m.p[tables][:])
	for page := range uint64(32) {
		if away(page) != tables {
			m.setWord(tables*256+8*page, away(page)*256+3)
		}
	}
	return m
}

// full: a seat in which no field is nought but State, for that is Ready; it goes through the pages of spread, and no line comes.
func full() api.Seat {
	s := api.Seat{PC: 0x240, Base: tables*256 + 5, Vec: 0x777, EPC: 0x888, Cause: 99, Addr: 98, Open: true, Pend: 0x5a, Mask: 0xa5}
	for i := range s.R {
		s.R[i] = 0x1000 + 0x100*uint64(i)
	}
	return s
}

// oneOf: a full seat, and its memory with one instruction at its PC.
func oneOf(t *testing.T, line string) (*api.Seat, *ram) {
	t.Helper()
	m := spread()
	m.lay(t, away(2)*256+0x40, line)
	s := full()
	return &s, m
}

// Every instruction, on a seat in which no field is nought, with what it comes to worked out by hand.
func TestEachInstruction(t *testing.T) {
	for _, x := range []struct {
		line   string
		exit   Exit
		change func(s *api.Seat)
	}{
		{"nop", Exit{}, func(s *api.Seat) {}},
		{"li r5 7", Exit{}, func(s *api.Seat) { s.R[5] = 7 }},
		{"li r5 -7", Exit{}, func(s *api.Seat) { s.R[5] = 0xfffffffffffffff9 }},
		{"lu r5 7", Exit{}, func(s *api.Seat) { s.R[5] = 0x71500 }},
		{"lu r5 -7", Exit{}, func(s *api.Seat) { s.R[5] = 0xfffffffffff91500 }},
		{"add r5 r6 r7", Exit{}, func(s *api.Seat) { s.R[5] = 0x2d00 }},
		{"sub r5 r6 r7", Exit{}, func(s *api.Seat) { s.R[5] = 0xffffffffffffff00 }},
		{"mul r5 r6 r7", Exit{}, func(s *api.Seat) { s.R[5] = 0x1fa0000 }},
		{"and r5 r6 r9", Exit{}, func(s *api.Seat) { s.R[5] = 0x1000 }},
		{"or r5 r6 r9", Exit{}, func(s *api.Seat) { s.R[5] = 0x1f00 }},
		{"xor r5 r6 r9", Exit{}, func(s *api.Seat) { s.R[5] = 0x0f00 }},
		{"shl r5 r6 r0", Exit{}, func(s *api.Seat) { s.R[5] = 0x1600 }},
		{"shr r5 r6 r0", Exit{}, func(s *api.Seat) { s.R[5] = 0x1600 }},
		{"addi r5 r6 7", Exit{}, func(s *api.Seat) { s.R[5] = 0x1607 }},
		{"addi r5 r6 -7", Exit{}, func(s *api.Seat) { s.R[5] = 0x15f9 }},
		{"ld r5 r6 8", Exit{}, func(s *api.Seat) { s.R[5] = 0x1122334455667788 }},
		{"ld r5 r7 -248", Exit{}, func(s *api.Seat) { s.R[5] = 0x1122334455667788 }},
		{"st r5 r6 16", Exit{}, func(s *api.Seat) {}},
		{"beq r5 r5 7", Exit{}, func(s *api.Seat) { s.PC = 0x25c - 4 }},
		{"beq r5 r5 -7", Exit{}, func(s *api.Seat) { s.PC = 0x224 - 4 }},
		{"beq r5 r6 7", Exit{}, func(s *api.Seat) {}},
		{"bne r5 r6 7", Exit{}, func(s *api.Seat) { s.PC = 0x25c - 4 }},
		{"bne r5 r6 -7", Exit{}, func(s *api.Seat) { s.PC = 0x224 - 4 }},
		{"bne r5 r5 7", Exit{}, func(s *api.Seat) {}},
		{"blt r5 r6 7", Exit{}, func(s *api.Seat) { s.PC = 0x25c - 4 }},
		{"blt r5 r6 -7", Exit{}, func(s *api.Seat) { s.PC = 0x224 - 4 }},
		{"blt r6 r5 7", Exit{}, func(s *api.Seat) {}},
		{"blt r5 r5 7", Exit{}, func(s *api.Seat) {}},
		{"jal r5 r6 7", Exit{}, func(s *api.Seat) { s.R[5], s.PC = 0x244, 0x1607-4 }},
		{"jal r5 r6 -8", Exit{}, func(s *api.Seat) { s.R[5], s.PC = 0x244, 0x15f8-4 }},
		{"jal r5 r5 8", Exit{}, func(s *api.Seat) { s.R[5], s.PC = 0x244, 0x1508-4 }},
		{"rd r5 0", Exit{}, func(s *api.Seat) { s.R[5] = 0x605 }},
		{"rd r5 1", Exit{}, func(s *api.Seat) { s.R[5] = 0x777 }},
		{"rd r5 2", Exit{}, func(s *api.Seat) { s.R[5] = 0x888 }},
		{"rd r5 3", Exit{}, func(s *api.Seat) { s.R[5] = 99 }},
		{"rd r5 4", Exit{}, func(s *api.Seat) { s.R[5] = 98 }},
		{"rd r5 5", Exit{}, func(s *api.Seat) { s.R[5] = 0xa5 }},
		{"rd r5 6", Exit{}, func(s *api.Seat) { s.R[5] = 1 }},
		{"rd r5 7", Exit{}, func(s *api.Seat) { s.R[5] = 1234567 }},
		{"rd r5 8", Exit{}, func(s *api.Seat) { s.R[5] = 2 }},
		{"wr r5 0", Exit{}, func(s *api.Seat) { s.Base = 0x1500 }},
		{"wr r5 1", Exit{}, func(s *api.Seat) { s.Vec = 0x1500 }},
		{"wr r5 2", Exit{}, func(s *api.Seat) { s.EPC = 0x1500 }},
		{"wr r5 3", Exit{}, func(s *api.Seat) { s.Cause = 0x1500 }},
		{"wr r5 4", Exit{}, func(s *api.Seat) { s.Addr = 0x1500 }},
		{"wr r5 5", Exit{}, func(s *api.Seat) { s.Mask = 0 }},
		{"wr r5 6", Exit{}, func(s *api.Seat) { s.Open = false }},
		{"hvc 7", Exit{Hyper, 7}, func(s *api.Seat) {}},
		{"hvc -7", Exit{Hyper, 0xfffffffffffffff9}, func(s *api.Seat) {}},
		{"hvc 0", Exit{Hyper, 0}, func(s *api.Seat) {}},
		{"wfi", Exit{Wait, 0}, func(s *api.Seat) { s.State = api.Waits }},
		{"ret", Exit{}, func(s *api.Seat) { s.PC = 0x888 - 4 }},
	} {
		s, m := oneOf(t, x.line)
		m.setWord(away(0x16)*256+8, 0x1122334455667788)
		want, bytes := full(), m.p
		x.change(&want)
		want.PC += 4
		if x.line == "st r5 r6 16" {
			binary.LittleEndian.PutUint64(bytes[away(0x16)][16:], 0x1500)
		}
		if got := Step(s, m, 1234567, 2); got != x.exit || *s != want || m.p != bytes || m.wrong {
			t.Errorf("%s: %v, %+v;\nwant %v, %+v (bytes alike: %v)", x.line, got, *s, x.exit, want, m.p == bytes)
		}
	}
}

// Every operation of registers, with values at the ends of words, and with registers that are one.
func TestOperationsOfRegisters(t *testing.T) {
	for o := code.Add; o <= code.Shr; o++ {
		for _, b := range values {
			for _, c := range values {
				for _, op := range []code.Op{{Code: o, A: 5, B: 6, C: 7}, {Code: o, A: 6, B: 6, C: 7}, {Code: o, A: 7, B: 6, C: 7}, {Code: o, A: 15, B: 0, C: 0}} {
					s, m := full(), spread()
					w, _ := code.Encode(op)
					m.setCode(away(2)*256+0x40, w)
					s.R[6], s.R[7], s.R[0] = b, c, b
					same(t, &s, m, 0, 0)
				}
			}
		}
	}
}

func TestShifts(t *testing.T) {
	for _, x := range []struct{ b, c, left, right uint64 }{
		{5, 0, 5, 5},
		{5, 1, 10, 2},
		{5, 62, 1 << 62, 0},
		{5, 63, 1 << 63, 0},
		{1<<63 + 5, 63, 1 << 63, 1},
		{5, 64, 5, 5},
		{5, 65, 10, 2},
		{5, 127, 1 << 63, 0},
		{5, 128, 5, 5},
		{greatest, 63, 1 << 63, 1},
		{greatest, greatest, 1 << 63, 1},
		{greatest, 1 << 63, greatest, greatest},
		{1 << 63, 1, 0, 1 << 62},
	} {
		for line, want := range map[string]uint64{"shl r1 r2 r3": x.left, "shr r1 r2 r3": x.right} {
			s, m := oneOf(t, line)
			s.R[2], s.R[3] = x.b, x.c
			if e := Step(s, m, 0, 0); e != (Exit{}) || s.R[1] != want || s.R[2] != x.b || s.R[3] != x.c {
				t.Errorf("%s of %x by %d: %v, %x; want %x", line, x.b, x.c, e, s.R[1], want)
			}
		}
	}
}

// Every N there is, of each operation that takes it as a number.
func TestEveryNumber(t *testing.T) {
	for _, o := range []byte{code.Li, code.Lu, code.Addi, code.Hvc, code.Beq, code.Jal} {
		m := spread()
		for n := math.MinInt16; n <= math.MaxInt16; n++ {
			op := code.Op{Code: o, N: int16(n)}
			if o != code.Hvc {
				op.A = 3
			}
			w, ok := code.Encode(op)
			if !ok {
				t.Fatal(op)
			}
			s := full()
			s.R[0] = s.R[3]
			m.setCode(away(2)*256+0x40, w)
			x := same(t, &s, m, 0, 0)
			if o == code.Hvc && x != (Exit{Hyper, uint64(int64(n))}) {
				t.Fatalf("hvc %d: %v", n, x)
			}
		}
	}
}

// B + N, and PC + 4 N, that go round, and those that only just don't.
func TestSumsThatGoRound(t *testing.T) {
	for _, x := range []struct {
		line string
		b    uint64
		want uint64 // r5, or PC of jal
	}{
		{"addi r5 r6 1", greatest, 0},
		{"addi r5 r6 2", greatest, 1},
		{"addi r5 r6 -1", 0, greatest},
		{"addi r5 r6 -32768", 32767, greatest},
		{"addi r5 r6 -32768", 32768, 0},
		{"addi r5 r6 32767", greatest - 32767, greatest},
		{"addi r5 r6 32767", greatest - 32766, 0},
		{"jal r7 r6 8", greatest - 3, 4},
		{"jal r7 r6 -8", 4, greatest - 3},
		{"jal r7 r6 4", greatest - 3, 0},
	} {
		s, m := oneOf(t, x.line)
		s.R[6] = x.b
		e := Step(s, m, 0, 0)
		got := s.R[5]
		if x.line[0] == 'j' {
			got = s.PC
		}
		if e != (Exit{}) || got != x.want {
			t.Errorf("%s of %x: %v, %x; want %x", x.line, x.b, e, got, x.want)
		}
	}
	for _, n := range edges {
		for _, base := range []uint64{0, tables * 256} {
			s, m := full(), spread()
			s.Base, s.PC = base, 0x100
			w, _ := code.Encode(code.Op{Code: code.Beq, A: 1, B: 1, N: n})
			m.setCode(away(1)*256, w)
			m.setCode(0x100, w)
			if e := Step(&s, m, 0, 0); e != (Exit{}) || s.PC != 0x100+uint64(4*int64(n)) {
				t.Errorf("beq %d: %v, %x", n, e, s.PC)
			}
		}
	}
}

// Loads and stores at which B + N goes round to an address that is there.
func TestAddressesThatGoRound(t *testing.T) {
	for _, base := range []uint64{0, tables * 256} {
		for _, lines := range []string{"ld r5 r6 264", "st r5 r6 264"} {
			s, m := full(), spread()
			s.Base, s.R[6] = base, greatest-7
			m.lay(t, away(2)*256+0x40, lines)
			m.lay(t, 0x240, lines)
			if e := same(t, &s, m, 0, 0); e.Kind != Done {
				t.Errorf("%s at Base %x: %v", lines, base, e)
			}
		}
	}
}

func TestBranches(t *testing.T) {
	for _, a := range values {
		for _, b := range values {
			for _, o := range []byte{code.Beq, code.Bne, code.Blt} {
				s, m := full(), spread()
				w, _ := code.Encode(code.Op{Code: o, A: 8, B: 9, N: -3})
				m.setCode(away(2)*256+0x40, w)
				s.R[8], s.R[9] = a, b
				same(t, &s, m, 0, 0)
			}
		}
	}
	for _, x := range []struct {
		line string
		a, b uint64
		goes bool
	}{
		{"blt r8 r9 2", greatest, 0, true}, // -1 is below 0
		{"blt r8 r9 2", 0, greatest, false},
		{"blt r8 r9 2", greatest - 1, greatest, true},
		{"blt r8 r9 2", 1 << 63, 1<<63 - 1, true}, // the least, and the greatest
		{"blt r8 r9 2", 1<<63 - 1, 1 << 63, false},
		{"blt r8 r9 2", 1 << 63, 1 << 63, false},
		{"blt r8 r9 2", 3, 4, true},
		{"beq r8 r9 2", 1 << 63, 0, false},
		{"beq r8 r9 2", 1 << 63, 1 << 63, true},
		{"bne r8 r9 2", 1 << 63, 0, true},
		{"bne r8 r9 2", greatest, greatest, false},
	} {
		s, m := oneOf(t, x.line)
		s.R[8], s.R[9] = x.a, x.b
		want := uint64(0x244)
		if x.goes {
			want = 0x248
		}
		if e := Step(s, m, 0, 0); e != (Exit{}) || s.PC != want {
			t.Errorf("%s of %x, %x: %v, PC %x; want %x", x.line, x.a, x.b, e, s.PC, want)
		}
	}
}

// A branch by 0 stays where it is, and goes on for ever.
func TestBranchToItself(t *testing.T) {
	s, m := oneOf(t, "beq r1 r1 0")
	for range 3 {
		if x := Step(s, m, 0, 0); x != (Exit{}) || *s != full() {
			t.Fatalf("%v, %+v", x, *s)
		}
	}
}

// B is taken ahead of A's change.
func TestJalOfOneRegister(t *testing.T) {
	s, m := oneOf(t, "jal r6 r6 0")
	s.R[6] = 0x300
	if x := Step(s, m, 0, 0); x != (Exit{}) || s.PC != 0x300 || s.R[6] != 0x244 {
		t.Errorf("%v, PC %x, R6 %x", x, s.PC, s.R[6])
	}
}

// The addresses around each edge, of Base 0: of loads, stores and fetches.
func TestAddressesOfBase0(t *testing.T) {
	const end = api.MaxPages * api.Page
	for _, x := range []struct {
		addr uint64
		data bool // may a word be loaded, or stored?
		code bool // may an instruction be fetched?
	}{
		{0, true, true},
		{1, false, false},
		{2, false, false},
		{3, false, false},
		{4, false, true},
		{5, false, false},
		{6, false, false},
		{7, false, false},
		{8, true, true},
		{248, true, true},
		{252, false, true},
		{255, false, false},
		{256, true, true},
		{end - 256, true, true},
		{end - 8, true, true},
		{end - 4, false, true},
		{end - 1, false, false},
		{end, false, false},
		{end + 4, false, false},
		{end + 8, false, false},
		{1 << 16, false, false},
		{1 << 32, false, false},
		{1<<32 + 8, false, false},
		{1 << 40, false, false},
		{1<<63 - 8, false, false},
		{1 << 63, false, false},
		{1<<63 + 8, false, false},
		{greatest - 7, false, false},
		{greatest - 3, false, false},
		{greatest, false, false},
	} {
		tryLoad(t, 0, x.addr, x.data)
		tryStore(t, 0, x.addr, x.data)
		tryFetch(t, 0, x.addr, x.code)
	}
}

// With a page of translations: the same edges, and each address leads to another page.
func TestAddressesByTranslation(t *testing.T) {
	for _, base := range []uint64{tables * 256, tables*256 + 1, tables*256 + 8, tables*256 + 255} {
		for page := range uint64(34) {
			right := page < 32 && away(page) != tables
			for _, off := range []uint64{0, 1, 2, 4, 8, 12, 128, 248, 252, 255} {
				tryLoad(t, base, page*256+off, right && off%8 == 0)
				tryStore(t, base, page*256+off, right && off%8 == 0)
				tryFetch(t, base, page*256+off, right && off%4 == 0)
			}
		}
		for _, addr := range []uint64{1 << 32, 1 << 40, 1 << 63, greatest - 7, greatest - 3, greatest} {
			tryLoad(t, base, addr, false)
			tryStore(t, base, addr, false)
			tryFetch(t, base, addr, false)
		}
	}
}

// leads: where an address stands, by Base 0 or by the page of translations of spread.
func leads(base, addr uint64) uint64 {
	if base == 0 {
		return addr
	}
	return away(addr/256)*256 + addr%256
}

// caught: was this the trap, and nothing else?
func caught(x Exit, s, was api.Seat, cause, addr uint64) bool {
	was.EPC, was.PC, was.Cause, was.Addr, was.Open = was.PC, was.Vec, cause, addr, false
	return x == Exit{Trap, cause} && s == was
}

// put lays an instruction at an address of a seat, if there is such a place.
func put(t *testing.T, m *ram, base, addr uint64, line string) {
	t.Helper()
	if addr%4 == 0 && addr < api.MaxPages*api.Page {
		m.lay(t, leads(base, addr), line)
	}
}

func tryLoad(t *testing.T, base, addr uint64, ok bool) {
	t.Helper()
	s, m := full(), spread()
	s.Base, s.R[6] = base, addr-16
	put(t, m, base, s.PC, "ld r5 r6 16")
	was := s
	x := same(t, &s, m, 5, 1)
	if !ok && !caught(x, s, was, api.BadLoad, addr) || ok && (x != Exit{} || s.R[5] != m.word(leads(base, addr))) {
		t.Errorf("ld at %x, Base %x: %v, %+v", addr, base, x, s)
	}
}

func tryStore(t *testing.T, base, addr uint64, ok bool) {
	t.Helper()
	s, m := full(), spread()
	s.Base, s.R[6], s.R[5] = base, addr+16, 0x1122334455667788
	put(t, m, base, s.PC, "st r5 r6 -16")
	was, bytes := s, m.p
	x := same(t, &s, m, 5, 1)
	if !ok && (!caught(x, s, was, api.BadStore, addr) || m.p != bytes) || ok && (x != Exit{} || m.word(leads(base, addr)) != 0x1122334455667788) {
		t.Errorf("st at %x, Base %x: %v, %+v", addr, base, x, s)
	}
}

func tryFetch(t *testing.T, base, addr uint64, ok bool) {
	t.Helper()
	s, m := full(), spread()
	s.Base, s.PC = base, addr
	put(t, m, base, addr, "li r9 9")
	was := s
	x := same(t, &s, m, 5, 1)
	if !ok && !caught(x, s, was, api.BadFetch, addr) || ok && (x != Exit{} || s.R[9] != 9 || s.PC != addr+4) {
		t.Errorf("fetch at %x, Base %x: %v, %+v", addr, base, x, s)
	}
}

// The page of translations at each Base: what stands behind the page's number plays no part.
func TestBase(t *testing.T) {
	for _, x := range []struct {
		base uint64
		page int // -1: there is none
	}{
		{1, 0}, {7, 0}, {8, 0}, {255, 0}, {256, 1}, {257, 1}, {511, 1}, {512, 2},
		{31 * 256, 31}, {31*256 + 1, 31}, {32*256 - 1, 31},
		{32 * 256, -1}, {32*256 + 1, -1}, {33 * 256, -1}, {64 * 256, -1}, {1 << 32, -1}, {1<<32 + 256, -1}, {1 << 40, -1}, {1 << 63, -1}, {1<<63 + 256, -1}, {greatest, -1},
	} {
		s, m := full(), &ram{}
		s.Base = x.base
		if x.page >= 0 {
			m.setWord(uint64(x.page)*256+2*8, 20*256+1)
			m.lay(t, 20*256+0x40, "li r9 9")
		}
		was := s
		e := same(t, &s, m, 5, 1)
		if x.page < 0 && (!caught(e, s, was, api.BadFetch, 0x240) || m.calls > 0) || x.page >= 0 && s.R[9] != 9 {
			t.Errorf("Base %x: %v, %+v", x.base, e, s)
		}
	}
}

// What a translation may tell, for reading, for writing, and for fetching.
func TestTranslations(t *testing.T) {
	for _, x := range []struct {
		w     uint64
		page  uint64
		read  bool
		write bool
	}{
		{0, 0, false, false},
		{2, 0, false, false},
		{9 * 256, 9, false, false},
		{9*256 + 2, 9, false, false},
		{9*256 + 0xfe, 9, false, false},
		{9*256 + 1, 9, true, false},
		{9*256 + 0xfd, 9, true, false},
		{9*256 + 3, 9, true, true},
		{9*256 + 0xff, 9, true, true},
		{1, 0, true, false},
		{3, 0, true, true},
		{31*256 + 3, 31, true, true},
		{31*256 + 1, 31, true, false},
		{32*256 + 3, 32, false, false},
		{33*256 + 3, 33, false, false},
		{256*256 + 3, 256, false, false},
		{1<<32 + 9*256 + 3, 0, false, false},
		{1<<40 + 9*256 + 3, 0, false, false},
		{1<<63 + 9*256 + 3, 0, false, false},
		{greatest, 0, false, false},
		{greatest - 1, 0, false, false},
	} {
		for _, line := range []string{"ld r5 r6 8", "st r5 r6 8"} {
			s, m := oneOf(t, line)
			m.setWord(tables*256+0x16*8, x.w)
			was, bytes, cause, ok := *s, m.p, api.BadLoad, x.read
			if line[0] == 's' {
				cause, ok = api.BadStore, x.write
			}
			e := same(t, s, m, 5, 1)
			if !ok && (!caught(e, *s, was, cause, 0x1608) || m.p != bytes) || ok && e.Kind != Done {
				t.Errorf("%s by %x: %v, %+v", line, x.w, e, *s)
			}
			if ok && cause == api.BadLoad && s.R[5] != m.word(x.page*256+8) || ok && cause == api.BadStore && m.word(x.page*256+8) != 0x1500 {
				t.Errorf("%s by %x: %x", line, x.w, s.R[5])
			}
		}
		s, m := full(), spread()
		m.setWord(tables*256+2*8, x.w)
		if x.page < 32 {
			m.lay(t, x.page*256+0x40, "li r9 9")
		}
		was := s
		if e := same(t, &s, m, 5, 1); !x.read && !caught(e, s, was, api.BadFetch, 0x240) || x.read && s.R[9] != 9 {
			t.Errorf("fetch by %x: %v, %+v", x.w, e, s)
		}
	}
}

// The page of translations may be what is read, and written, like any other one, and from then on tells what was written.
func TestThePageOfTranslationsItself(t *testing.T) {
	m := &ram{}
	m.setWord(0, 3)       // page 0: itself, and it holds the translations
	m.setWord(8, 256+1)   // page 1: itself, read alone
	m.setWord(16, 9*256)  // page 2: not there
	m.setWord(24, 31*256) // page 3: not there
	m.lay(t, 256, "li r1 2307; st r1 r0 16; li r2 7; st r2 r3 512; ld r4 r3 512; ld r5 r0 16; st r1 r3 256")
	s := api.Seat{PC: 256, Base: 1, Vec: 0x1000}
	for i := range 6 {
		if x := same(t, &s, m, 0, 0); x != (Exit{}) {
			t.Fatalf("%d: %v, %+v", i, x, s)
		}
	}
	if s.R[4] != 7 || m.word(9*256) != 7 || s.R[5] != 2307 {
		t.Errorf("%+v", s)
	}
	if x := same(t, &s, m, 0, 0); x != (Exit{Trap, api.BadStore}) || s.Addr != 256 || s.EPC != 256+24 {
		t.Errorf("%v, %+v", x, s)
	}
}

// A trap of Vec 0 kills, one of Vec not 0 goes there, of each cause; nothing else has changed.
func TestTrapsOfEachCause(t *testing.T) {
	for _, x := range []struct {
		line        string
		cause, addr uint64
		change      func(s *api.Seat, m *ram)
	}{
		{"nop", api.BadFetch, 0x242, func(s *api.Seat, m *ram) { s.PC = 0x242 }},
		{"nop", api.BadFetch, greatest, func(s *api.Seat, m *ram) { s.PC = greatest }},
		{"nop", api.BadCode, 0xffffffff, func(s *api.Seat, m *ram) { m.setCode(away(2)*256+0x40, 0xffffffff) }},
		{"ld r5 r6 9", api.BadLoad, 0x1609, func(s *api.Seat, m *ram) {}},
		{"ld r6 r6 9", api.BadLoad, 0x1609, func(s *api.Seat, m *ram) {}},
		{"st r5 r6 9", api.BadStore, 0x1609, func(s *api.Seat, m *ram) {}},
		{"wr r5 7", api.BadCode, 0x240, func(s *api.Seat, m *ram) {}},
		{"wr r5 8", api.BadCode, 0x240, func(s *api.Seat, m *ram) {}},
		{"nop", api.Line + 1, 0, func(s *api.Seat, m *ram) { s.Pend, s.Mask = 2, 255 }},
	} {
		for _, vec := range []uint64{0, 1, 0x777, greatest} {
			s, m := oneOf(t, x.line)
			x.change(s, m)
			s.Vec = vec
			was, bytes := *s, m.p
			if x.cause >= api.Line {
				was.Pend = 0
			}
			e := same(t, s, m, 5, 1)
			if vec == 0 {
				was.State = api.Dead
				if e != (Exit{Died, x.cause}) || *s != was {
					t.Errorf("%s, Vec 0: %v, %+v", x.line, e, *s)
				}
				if e := Step(s, m, 5, 1); e != (Exit{Kind: Idle}) || *s != was {
					t.Errorf("%s, dead: %v, %+v", x.line, e, *s)
				}
			} else if !caught(e, *s, was, x.cause, x.addr) {
				t.Errorf("%s, Vec %x: %v, %+v", x.line, vec, e, *s)
			}
			if m.p != bytes {
				t.Errorf("%s: bytes have changed", x.line)
			}
		}
	}
}

// Every Pend and Mask, open or not: a line comes ahead of the instruction, the least first, and without the bus.
func TestLinesComeFirst(t *testing.T) {
	for pend := range uint32(256) {
		for mask := range uint32(256) {
			for _, open := range []bool{false, true} {
				s, m := oneOf(t, "li r9 9")
				s.Pend, s.Mask, s.Open = pend, mask, open
				x := same(t, s, m, 0, 0)
				if lines := open && pend&mask != 0; lines != (x.Kind == Trap) || lines != (m.calls == 0) || lines == (s.R[9] == 9) {
					t.Fatalf("Pend %x, Mask %x, %v: %v, %d calls", pend, mask, open, x, m.calls)
				}
			}
		}
	}
}

// A line comes though there is no instruction.
func TestALineComesAheadOfAFault(t *testing.T) {
	s, m := oneOf(t, "nop")
	s.PC, s.Pend, s.Mask = 3, 0xc0, 0xff
	was := *s
	was.Pend = 0x80
	if x := Step(s, m, 0, 0); !caught(x, *s, was, api.Line+6, 0) {
		t.Errorf("%v, %+v", x, *s)
	}
}

// What may not be a seat's Pend or Mask mustn't panic.
func TestLinesThatThereAreNone(t *testing.T) {
	for _, w := range []uint32{1 << 8, 1 << 31, math.MaxUint32} {
		s, m := oneOf(t, "wfi")
		s.Pend, s.Mask = w, w
		Step(s, m, 0, 0)
		Step(s, m, 0, 0)
	}
}

func TestWfi(t *testing.T) {
	for pend := range uint32(256) {
		for mask := range uint32(256) {
			s, m := oneOf(t, "wfi")
			s.Pend, s.Mask, s.Open = pend, mask, false
			want := *s
			want.PC += 4
			exit := Exit{Kind: Done}
			if pend&mask == 0 {
				want.State, exit = api.Waits, Exit{Kind: Wait}
			}
			if x := Step(s, m, 0, 0); x != exit || *s != want {
				t.Fatalf("Pend %x, Mask %x: %v, %+v", pend, mask, x, *s)
			}
		}
	}
}

// A seat that waits does nothing till a line of its mask is raised; then it goes on behind Wfi, by way of the trap if it is open.
func TestWfiAndOn(t *testing.T) {
	for _, open := range []bool{false, true} {
		s, m := oneOf(t, "wfi; li r9 9")
		s.Open, s.Pend, s.Mask = open, 0, 4
		if x := same(t, s, m, 0, 0); x.Kind != Wait {
			t.Fatal(x)
		}
		line.Raise(s, 1)
		if x := same(t, s, m, 0, 0); x.Kind != Idle || s.Pend != 2 {
			t.Fatal(x)
		}
		line.Raise(s, 2)
		x := same(t, s, m, 0, 0)
		if open && (x != (Exit{Trap, api.Line + 2}) || s.EPC != 0x244 || s.Pend != 2) || !open && (x != (Exit{}) || s.R[9] != 9) {
			t.Errorf("open %v: %v, %+v", open, x, *s)
		}
	}
}

// Each register of the machine, with each value written; a Mask, or Open, that lets a line come does so at the next step.
func TestRegistersOfTheMachine(t *testing.T) {
	for n := range code.Regs {
		for _, v := range values {
			for _, me := range []int{0, 1, 2, -1, math.MaxInt, math.MinInt} {
				s, m := full(), spread()
				w, _ := code.Encode(code.Op{Code: code.Wr, A: 5, N: int16(n)})
				m.setCode(away(2)*256+0x40, w)
				w, _ = code.Encode(code.Op{Code: code.Rd, A: 4, N: int16(n)})
				m.setCode(away(2)*256+0x44, w)
				s.R[5] = v
				x := same(t, &s, m, v/2, me)
				if n >= code.Clock {
					if x != (Exit{Trap, api.BadCode}) || s.Addr != 0x240 {
						t.Fatalf("wr %d of %x: %v, %+v", n, v, x, s)
					}
					s.PC = 0x244
				}
				s.Base = tables * 256
				same(t, &s, m, v/2, me)
			}
		}
	}
}

func TestWrLetsALineCome(t *testing.T) {
	for _, line := range []string{"wr r5 5", "wr r5 6"} {
		s, m := oneOf(t, line)
		s.Pend, s.Mask, s.R[5] = 8, 8, 0xff
		s.Open = line == "wr r5 5"
		if s.Open {
			s.Mask = 0
		}
		if x := same(t, s, m, 0, 0); x != (Exit{}) || s.State != api.Ready || s.PC != 0x244 {
			t.Errorf("%s: %v, %+v", line, x, *s)
		}
		if x := same(t, s, m, 0, 0); x != (Exit{Trap, api.Line + 3}) || s.EPC != 0x244 || s.Pend != 0 {
			t.Errorf("behind %s: %v, %+v", line, x, *s)
		}
	}
}

// Ret opens, whether it was open or not, and then a line comes from where it went to.
func TestRet(t *testing.T) {
	for _, open := range []bool{false, true} {
		s, m := oneOf(t, "ret")
		s.Open = open
		want := *s
		want.PC, want.Open = s.EPC, true
		if x := Step(s, m, 0, 0); x != (Exit{}) || *s != want {
			t.Errorf("%v, %+v", x, *s)
		}
		line.Raise(s, 0)
		if x := Step(s, m, 0, 0); x != (Exit{Trap, api.Line}) || s.EPC != 0x888 || s.PC != 0x777 {
			t.Errorf("%v, %+v", x, *s)
		}
	}
}

// Four bytes that are none: the trap's address is these, lowest first, whatever the operation they look like.
func TestFourBytesThatAreNone(t *testing.T) {
	l := []uint32{1, 0x00010000, 0x00400000, 23 << 26, 63 << 26, math.MaxUint32, 1 << 31, 0x04440005, 0x0c460010, 18<<26 | 9, 18<<26 | 0xffff, 19<<26 | 9, 21<<26 | 1, 22<<26 | 1<<22, 20<<26 | 1<<22}
	r := rand.New(rand.NewSource(12))
	for range 3000 {
		l = append(l, r.Uint32())
	}
	for _, w := range l {
		if _, ok := code.Decode(w); ok {
			continue
		}
		for _, base := range []uint64{0, tables * 256} {
			s, m := full(), spread()
			s.Base = base
			m.setCode(leads(base, s.PC), w)
			was := s
			if x := same(t, &s, m, 0, 0); !caught(x, s, was, api.BadCode, uint64(w)) {
				t.Fatalf("%08x: %v, %+v", w, x, s)
			}
		}
	}
}

// nothing: a bus that must not be asked.
type nothing struct{ t *testing.T }

func (n nothing) Load(page, off, c int) ([]byte, api.Errno) {
	n.t.Error("Load")
	return nil, api.ErrFault
}

func (n nothing) Save(page, off int, p []byte) api.Errno {
	n.t.Error("Save")
	return api.ErrFault
}

// Of nil, and of a seat that isn't ready, nothing happens: not even a line is taken.
func TestIdle(t *testing.T) {
	idle := Exit{Kind: Idle}
	if x := Step(nil, nil, 0, 0); x != idle {
		t.Error(x)
	}
	if x := Step(nil, nothing{t}, 5, 1); x != idle {
		t.Error(x)
	}
	s := full()
	s.Pend, s.Mask = 255, 255
	was := s
	if x := Step(&s, nil, 5, 1); x != idle || s != was {
		t.Errorf("%v, %+v", x, s)
	}
	for _, state := range []byte{api.Waits, api.Dead, 3, 255} {
		s.State = state
		was := s
		if x := Step(&s, nothing{t}, 5, 1); x != idle || s != was {
			t.Errorf("State %d: %v, %+v", state, x, s)
		}
	}
}

// A bus that refuses: the instruction's page, the page of translations, the page of a load or of a store.
func TestABusThatRefuses(t *testing.T) {
	for _, e := range refusals {
		for _, x := range []struct {
			line  string
			shut  func(m *ram)
			cause uint64
			addr  uint64
		}{
			{"nop", func(m *ram) { m.noLoad[away(2)] = e }, api.BadFetch, 0x240},
			{"nop", func(m *ram) { m.noLoad[tables] = e }, api.BadFetch, 0x240},
			{"ld r5 r6 8", func(m *ram) { m.noLoad[away(0x16)] = e }, api.BadLoad, 0x1608},
			{"st r5 r6 8", func(m *ram) { m.noSave[away(0x16)] = e }, api.BadStore, 0x1608},
		} {
			s, m := oneOf(t, x.line)
			x.shut(m)
			was, bytes := *s, m.p
			if got := same(t, s, m, 5, 1); !caught(got, *s, was, x.cause, x.addr) || m.p != bytes {
				t.Errorf("%s, refused by %d: %v, %+v", x.line, e, got, *s)
			}
		}
		// What isn't asked for may be refused: a load needs no Save, a store no Load, of the page that it goes to.
		for _, line := range []string{"ld r5 r6 8", "st r5 r6 8", "li r9 9"} {
			s, m := oneOf(t, line)
			for page := range m.noSave {
				if line[0] == 's' && uint64(page) == away(0x16) {
					m.noLoad[page] = e
				} else {
					m.noSave[page] = e
				}
			}
			if x := same(t, s, m, 5, 1); x != (Exit{}) {
				t.Errorf("%s: %v", line, x)
			}
		}
	}
}

// odd is a bus that does, at its n-th call, what a bus does not.
type odd struct {
	*ram
	n    int
	does func() ([]byte, api.Errno)
}

func (o *odd) Load(page, off, n int) ([]byte, api.Errno) {
	if o.n--; o.n == 0 {
		return o.does()
	}
	return o.ram.Load(page, off, n)
}

func (o *odd) Save(page, off int, p []byte) api.Errno {
	if o.n--; o.n == 0 {
		_, e := o.does()
		return e
	}
	return o.ram.Save(page, off, p)
}

// A bus that panics, or hands out another count of bytes, or bytes beside an error, has refused; no call of Step panics.
func TestABusThatIsOdd(t *testing.T) {
	none := &odd{}
	for name, does := range map[string]func() ([]byte, api.Errno){
		"panics":    func() ([]byte, api.Errno) { panic("no") },
		"nil panic": func() ([]byte, api.Errno) { panic(nil) },
		"runtime":   func() ([]byte, api.Errno) { return none.does() },
	} {
		tryOdd(t, name, does, true)
	}
	for _, e := range refusals {
		// The eight would be a translation, and the four an instruction.
		p := []byte{3, 20, 0, 0, 0, 0, 0, 0}
		tryOdd(t, "refuses", func() ([]byte, api.Errno) { return p, e }, true)
		tryOdd(t, "refuses four", func() ([]byte, api.Errno) { return []byte{9, 0, 64, 6}, e }, true)
	}
	for _, n := range []int{0, 1, 3, 5, 7, 9, 16, 256} {
		tryOdd(t, "another count", func() ([]byte, api.Errno) { return make([]byte, n), api.OK }, false)
	}
}

func tryOdd(t *testing.T, name string, does func() ([]byte, api.Errno), saves bool) {
	t.Helper()
	for n, cause := range []uint64{1: api.BadFetch, 2: api.BadFetch, 3: 0, 4: 0} {
		for line, bad := range map[string]uint64{"ld r5 r6 8": api.BadLoad, "st r5 r6 8": api.BadStore} {
			if n == 0 || n == 4 && bad == api.BadStore && !saves {
				continue
			}
			s, m := oneOf(t, line)
			was, bytes, addr, want := *s, m.p, uint64(0x240), cause
			if want == 0 {
				addr, want = 0x1608, bad
			}
			if x := Step(s, &odd{m, n, does}, 5, 1); !caught(x, *s, was, want, addr) || m.p != bytes {
				t.Errorf("%s at call %d, %s: %v, %+v", name, n, line, x, *s)
			}
		}
	}
}

// A bus that is a nil pointer isn't nil, but has nothing.
func TestABusOfANilPointer(t *testing.T) {
	var m *ram
	s := full()
	was := s
	if x := Step(&s, m, 5, 1); !caught(x, s, was, api.BadFetch, 0x240) {
		t.Errorf("%v, %+v", x, s)
	}
}

// keeper hands out its own bytes, and keeps those that it is handed.
type keeper struct {
	*ram
	kept [][]byte
}

func (k *keeper) Load(page, off, n int) ([]byte, api.Errno) {
	return k.p[page][off : off+n], api.OK
}

func (k *keeper) Save(page, off int, p []byte) api.Errno {
	k.kept = append(k.kept, p)
	return k.ram.Save(page, off, p)
}

// What a bus hands out isn't changed, and what it was handed stays as it was.
func TestMemory(t *testing.T) {
	s, m := oneOf(t, "ld r5 r6 8; addi r5 r5 1; st r5 r6 16; addi r5 r5 1; st r5 r6 24; st r6 r6 32")
	k := &keeper{ram: m}
	first := m.word(away(0x16)*256 + 8)
	for range 6 {
		if x := Step(s, k, 0, 0); x != (Exit{}) {
			t.Fatal(x)
		}
	}
	if m.word(away(0x16)*256+8) != first || len(k.kept) != 3 {
		t.Fatalf("%x, %d kept", m.word(away(0x16)*256+8), len(k.kept))
	}
	for i, want := range []uint64{first + 1, first + 2, 0x1600} {
		if len(k.kept[i]) != 8 || word.Of(k.kept[i]) != want {
			t.Errorf("kept %d: %x; want %x", i, k.kept[i], want)
		}
	}
}

// run makes steps till one isn't Done.
func run(t *testing.T, s *api.Seat, m *ram, most int) Exit {
	t.Helper()
	for i := range most {
		if x := same(t, s, m, uint64(i), 1); x.Kind != Done {
			return x
		}
	}
	t.Fatalf("more than %d steps: %+v", most, *s)
	return Exit{}
}

func TestProgramThatSums(t *testing.T) {
	m, s := &ram{}, seat.New()
	m.lay(t, 0, "li r1 100; add r2 r2 r1; addi r1 r1 -1; bne r1 r0 -2; hvc 3")
	if x := run(t, &s, m, 400); x != (Exit{Hyper, 3}) || s.R[2] != 5050 || s.PC != 20 {
		t.Errorf("%v, %+v", x, s)
	}
}

// A call and a way back by Jal, to the product of the numbers up to 20.
func TestProgramThatCalls(t *testing.T) {
	m, s := &ram{}, seat.New()
	m.lay(t, 0, "li r1 20; li r2 1; jal r14 r0 256; hvc -1")
	m.lay(t, 256, "mul r2 r2 r1; addi r1 r1 -1; blt r0 r1 -2; jal r15 r14 0")
	if x := run(t, &s, m, 400); x != (Exit{Hyper, greatest}) || s.R[2] != 2432902008176640000 || s.PC != 16 {
		t.Errorf("%v, %+v", x, s)
	}
}

// A program that makes its own page of translations, turns it on, and then reads, writes and fetches through it.
func TestProgramThatTranslates(t *testing.T) {
	m, s := &ram{}, seat.New()
	m.lay(t, 0, "li r1 1; st r1 r3 256; li r1 1283; st r1 r3 264; li r1 257; wr r1 0; li r4 77; st r4 r3 264; ld r5 r3 264; st r4 r3 0; hvc 1")
	m.lay(t, 512, "rd r6 3; rd r7 4; rd r8 2; addi r8 r8 4; wr r8 2; ret")
	m.setWord(256+16, 512+1)
	s.Vec = 512
	if x := run(t, &s, m, 10); x != (Exit{Trap, api.BadStore}) {
		t.Fatalf("%v, %+v", x, s)
	}
	if x := run(t, &s, m, 10); x != (Exit{Hyper, 1}) {
		t.Fatalf("%v, %+v", x, s)
	}
	if s.R[5] != 77 || m.word(5*256+8) != 77 || s.R[6] != api.BadStore || s.R[7] != 0 || s.R[8] != 40 || !s.Open {
		t.Errorf("%+v", s)
	}
}

// Numbers with an alphabet of instructions at the ends of what they take: many steps of many programs, of which each is held against the plain one.
func TestManySteps(t *testing.T) {
	r := rand.New(rand.NewSource(9))
	kinds := map[byte]int{}
	for range 300 {
		m := anyRam(r)
		s := anySeat(r)
		for range 120 {
			anyTouch(r, &s, m)
			x := same(t, &s, m, r.Uint64()>>1, r.Intn(3))
			kinds[x.Kind]++
		}
	}
	for kind := Done; kind <= Idle; kind++ {
		if kinds[kind] < 50 {
			t.Errorf("kind %d came %d times", kind, kinds[kind])
		}
	}
}

func anyWord(r *rand.Rand) uint64 {
	switch r.Intn(4) {
	case 0:
		return values[r.Intn(len(values))]
	case 1:
		return r.Uint64()
	}
	return uint64(r.Intn(1100)) * 8
}

func anyCode(r *rand.Rand) uint32 {
	for range 30 {
		o := code.Op{Code: byte(r.Intn(int(code.Last))), A: byte(r.Intn(16)), N: edges[r.Intn(len(edges))]}
		switch o.Code {
		case code.Rd, code.Wr:
			o.N = int16(r.Intn(code.Regs))
		case code.Hvc:
			o.A = 0
		case code.Nop, code.Wfi, code.Ret:
			o.A, o.N = 0, 0
		case code.Add, code.Sub, code.Mul, code.And, code.Or, code.Xor, code.Shl, code.Shr:
			o.B, o.C, o.N = byte(r.Intn(16)), byte(r.Intn(16)), 0
		case code.Addi, code.Ld, code.St, code.Beq, code.Bne, code.Blt, code.Jal:
			o.B = byte(r.Intn(16))
		}
		if w, ok := code.Encode(o); ok {
			return w
		}
	}
	return r.Uint32()
}

func anyRam(r *rand.Rand) *ram {
	m := &ram{}
	for page := range m.p {
		for off := 0; off < 256; off += 4 {
			m.setCode(uint64(page*256+off), anyCode(r))
		}
	}
	for _, page := range []uint64{0, 3, 31} {
		for i := range uint64(32) {
			m.setWord(page*256+8*i, uint64(r.Intn(33))*256+uint64(r.Intn(256))|uint64(r.Intn(8)+1)/2)
		}
	}
	for range r.Intn(4) {
		m.noLoad[r.Intn(32)] = refusals[r.Intn(len(refusals))]
		m.noSave[r.Intn(32)] = refusals[r.Intn(len(refusals))]
	}
	return m
}

func anySeat(r *rand.Rand) api.Seat {
	s := api.Seat{PC: uint64(r.Intn(2048)) * 4, Base: []uint64{0, 0, 5, 3 * 256, 31*256 + 9, 32 * 256}[r.Intn(6)], Vec: uint64(r.Intn(2048)) * 4, EPC: uint64(r.Intn(2048)) * 4, Cause: anyWord(r), Addr: anyWord(r)}
	for i := range s.R {
		s.R[i] = anyWord(r)
	}
	s.Open, s.Pend, s.Mask = r.Intn(2) == 1, uint32(r.Intn(256)), uint32(r.Intn(256))
	return s
}

// anyTouch is what comes from outside between two steps: lines, and now and then another seat, for programs like these soon go round in a trap.
func anyTouch(r *rand.Rand, s *api.Seat, m *ram) {
	switch r.Intn(8) {
	case 0:
		line.Raise(s, r.Intn(api.Lines))
	case 1:
		*s = anySeat(r)
	case 2:
		s.Vec = 0
	case 3:
		s.PC = uint64(r.Intn(2048)) * 4
	case 4:
		m.setCode(uint64(r.Intn(2048))*4, anyCode(r))
	}
}

func TestKinds(t *testing.T) {
	if Done != 0 || Trap != 1 || Hyper != 2 || Wait != 3 || Died != 4 || Idle != 5 {
		t.Error(Done, Trap, Hyper, Wait, Died, Idle)
	}
}

// The chapter's example: li r1 5 at 0.
func TestExample(t *testing.T) {
	m, s := &ram{}, seat.New()
	m.lay(t, 0, "li r1 5")
	want := api.Seat{PC: 4}
	want.R[1] = 5
	if x := Step(&s, m, 0, 0); x != (Exit{Kind: Done}) || s != want {
		t.Errorf("%v, %+v", x, s)
	}
}
