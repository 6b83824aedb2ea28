package text

import (
	"encoding/binary"
	"fmt"
	"regexp"
	"slices"
	"strconv"
	"strings"
	"testing"

	"hermitcrab/api"
	"hermitcrab/code"
)

// The chapters' lists, told once more here, so that the tests don't lean on the program's own.
var operations = []struct{ name, has string }{
	{"nop", ""}, {"li", "AN"}, {"lu", "AN"},
	{"add", "ABC"}, {"sub", "ABC"}, {"mul", "ABC"}, {"and", "ABC"}, {"or", "ABC"}, {"xor", "ABC"}, {"shl", "ABC"}, {"shr", "ABC"},
	{"addi", "ABN"}, {"ld", "ABN"}, {"st", "ABN"}, {"beq", "ABN"}, {"bne", "ABN"}, {"blt", "ABN"}, {"jal", "ABN"},
	{"rd", "AN"}, {"wr", "AN"}, {"hvc", "N"}, {"wfi", ""}, {"ret", ""},
}

// shown says what the chapter says of Show.
func shown(o code.Op) string {
	if int(o.Code) >= len(operations) {
		return ""
	}
	operation := operations[o.Code]
	line := operation.name
	for _, f := range []struct {
		field string
		value byte
	}{{"A", o.A}, {"B", o.B}, {"C", o.C}} {
		has := strings.Contains(operation.has, f.field)
		if f.value > 15 || f.value != 0 && !has {
			return ""
		}
		if has {
			line += fmt.Sprintf(" r%d", f.value)
		}
	}
	machine := operation.name == "rd" || operation.name == "wr"
	switch {
	case !strings.Contains(operation.has, "N"):
		if o.N != 0 {
			return ""
		}
	case machine && (o.N < 0 || o.N > 8):
		return ""
	default:
		line += fmt.Sprintf(" %d", o.N)
	}
	return line
}

const (
	aRegister = ` r([0-9]|1[0-5])`
	aNumber   = ` (0|-?[1-9][0-9]*)`
)

var (
	instruction = regexp.MustCompile(`\A(?:(?:nop|wfi|ret)|(?:rd|wr)` + aRegister + ` [0-8]|hvc` + aNumber + `|(?:li|lu)` + aRegister + aNumber +
		`|(?:addi|ld|st|beq|bne|blt|jal)` + aRegister + aRegister + aNumber + `|(?:add|sub|mul|and|or|xor|shl|shr)` + aRegister + aRegister + aRegister + `)\z`)
	lastNumber = regexp.MustCompile(`[0-9-]+\z`)
)

// isLine: does Show make it of one, by a pattern of all that it makes?
func isLine(line string) bool {
	if !instruction.MatchString(line) {
		return false
	}
	n, err := strconv.Atoi(lastNumber.FindString(line))
	return err != nil || n >= -1<<15 && n < 1<<15
}

func someRight() []code.Op {
	var all []code.Op
	for c := range 256 {
		for _, a := range []byte{0, 1, 9, 10, 15, 16, 255} {
			for _, b := range []byte{0, 1, 9, 10, 15, 16, 255} {
				for _, r := range []byte{0, 1, 9, 10, 15, 16, 255} {
					for _, n := range []int16{0, 1, 8, 9, 10, 32767, -1, -8, -10, -32768} {
						if o := (code.Op{Code: byte(c), A: a, B: b, C: r, N: n}); shown(o) != "" {
							all = append(all, o)
						}
					}
				}
			}
		}
	}
	return all
}

func TestEachOperation(t *testing.T) {
	for _, c := range []struct {
		o    code.Op
		line string
	}{
		{code.Op{}, "nop"},
		{code.Op{Code: code.Li, A: 1, N: -5}, "li r1 -5"},
		{code.Op{Code: code.Lu, A: 2, N: 65}, "lu r2 65"},
		{code.Op{Code: code.Add, A: 1, B: 2, C: 15}, "add r1 r2 r15"},
		{code.Op{Code: code.Sub, A: 3, B: 4, C: 5}, "sub r3 r4 r5"},
		{code.Op{Code: code.Mul, A: 6, B: 7, C: 8}, "mul r6 r7 r8"},
		{code.Op{Code: code.And, A: 9, B: 10, C: 11}, "and r9 r10 r11"},
		{code.Op{Code: code.Or, A: 12, B: 13, C: 14}, "or r12 r13 r14"},
		{code.Op{Code: code.Xor, A: 15}, "xor r15 r0 r0"},
		{code.Op{Code: code.Shl, B: 15}, "shl r0 r15 r0"},
		{code.Op{Code: code.Shr, C: 15}, "shr r0 r0 r15"},
		{code.Op{Code: code.Addi, A: 2, B: 2, N: -1}, "addi r2 r2 -1"},
		{code.Op{Code: code.Ld, A: 1, B: 2, N: 8}, "ld r1 r2 8"},
		{code.Op{Code: code.St, A: 1, B: 2, N: -8}, "st r1 r2 -8"},
		{code.Op{Code: code.Beq, A: 10, B: 10, N: -1}, "beq r10 r10 -1"},
		{code.Op{Code: code.Bne, A: 1, B: 0, N: 2}, "bne r1 r0 2"},
		{code.Op{Code: code.Blt, A: 0, B: 1, N: 0}, "blt r0 r1 0"},
		{code.Op{Code: code.Jal, A: 14, B: 3, N: 64}, "jal r14 r3 64"},
		{code.Op{Code: code.Rd, A: 3, N: code.Clock}, "rd r3 7"},
		{code.Op{Code: code.Wr, A: 3, N: code.Base}, "wr r3 0"},
		{code.Op{Code: code.Hvc, N: 9}, "hvc 9"},
		{code.Op{Code: code.Wfi}, "wfi"},
		{code.Op{Code: code.Ret}, "ret"},
	} {
		if line := Show(c.o); line != c.line {
			t.Errorf("Show(%v) = %q; want %q", c.o, line, c.line)
		}
		if o, e := Read(c.line); o != c.o || e != api.OK {
			t.Errorf("Read(%q) = %v, %d; want %v", c.line, o, e, c.o)
		}
	}
}

func TestEnds(t *testing.T) {
	for line, want := range map[string]code.Op{
		"li r15 32767":             {Code: code.Li, A: 15, N: 32767},
		"li r0 -32768":             {Code: code.Li, N: -32768},
		"addi r15 r15 -32768":      {Code: code.Addi, A: 15, B: 15, N: -32768},
		"shr r15 r15 r15":          {Code: code.Shr, A: 15, B: 15, C: 15},
		"hvc -32768":               {Code: code.Hvc, N: -32768},
		"hvc 32767":                {Code: code.Hvc, N: 32767},
		"rd r15 8":                 {Code: code.Rd, A: 15, N: code.Me},
		"wr r15 8":                 {Code: code.Wr, A: 15, N: code.Me},
		"li r16 0":                 {},
		"li r0 32768":              {},
		"li r0 -32769":             {},
		"hvc 65535":                {},
		"hvc 65536":                {},
		"hvc 4294967296":           {},
		"hvc 18446744073709551616": {},
		"add r16 r0 r0":            {},
		"add r0 r16 r0":            {},
		"add r0 r0 r16":            {},
		"add r0 r0 r256":           {},
		"add r0 r0 r257":           {},
		"rd r0 9":                  {},
		"wr r0 9":                  {},
		"rd r0 -1":                 {},
		"wr r0 32767":              {},
	} {
		err := api.OK
		if want == (code.Op{}) {
			err = api.ErrForm
		}
		o, e := Read(line)
		if o != want || e != err {
			t.Errorf("Read(%q) = %v, %d; want %v, %d", line, o, e, want, err)
		}
		if e == api.OK && Show(o) != line {
			t.Errorf("Show(%v) = %q; want %q", o, Show(o), line)
		}
	}
}

func TestShowOfWhatMayNotBe(t *testing.T) {
	for _, o := range []code.Op{
		{Code: code.Last}, {Code: code.Last + 1}, {Code: 255},
		{A: 1}, {B: 1}, {C: 1}, {N: 1}, {N: -1},
		{Code: code.Li, A: 16}, {Code: code.Li, B: 1}, {Code: code.Lu, C: 1},
		{Code: code.Add, A: 16}, {Code: code.Add, B: 16}, {Code: code.Add, C: 16}, {Code: code.Add, N: 1},
		{Code: code.Addi, B: 255}, {Code: code.Addi, C: 1},
		{Code: code.Rd, N: code.Regs}, {Code: code.Wr, N: -1}, {Code: code.Hvc, A: 1}, {Code: code.Ret, N: 1},
	} {
		if line := Show(o); line != "" {
			t.Errorf("Show(%v) = %q", o, line)
		}
	}
}

func TestShowByTheChapter(t *testing.T) {
	for c := range 256 {
		for field := range 4 {
			for v := range 256 {
				o := code.Op{Code: byte(c)}
				switch field {
				case 0:
					o.A = byte(v)
				case 1:
					o.B = byte(v)
				case 2:
					o.C = byte(v)
				case 3:
					o.N = int16(v - 128)
				}
				if line := Show(o); line != shown(o) {
					t.Fatalf("Show(%v) = %q; want %q", o, line, shown(o))
				}
			}
		}
	}
}

func TestShownAndReadAgain(t *testing.T) {
	seen := map[byte]bool{}
	for _, o := range someRight() {
		line := Show(o)
		if line != shown(o) || !isLine(line) {
			t.Fatalf("Show(%v) = %q; want %q", o, line, shown(o))
		}
		if back, e := Read(line); back != o || e != api.OK {
			t.Fatalf("Read(%q) = %v, %d; want %v", line, back, e, o)
		}
		seen[o.Code] = true
	}
	if len(seen) != int(code.Last) {
		t.Errorf("%d operations of %d", len(seen), code.Last)
	}
}

func TestEveryNumber(t *testing.T) {
	for n := -1 << 15; n < 1<<15; n++ {
		o := code.Op{Code: code.Hvc, N: int16(n)}
		line := "hvc " + strconv.Itoa(n)
		if back, e := Read(line); back != o || e != api.OK || Show(o) != line {
			t.Fatalf("%d: %q, %v, %d", n, Show(o), back, e)
		}
	}
}

func TestLinesOfNone(t *testing.T) {
	for _, line := range []string{
		"", " ", "?", ";", "r", "r1", "what", "no", "nopp", "op", "n", "Nop", "NOP", "nоp", "li", "last", "23",
		" nop", "nop ", "\tnop", "nop\n", "nop\x00", "nop;", "nop 0", "nop 1", "nop r0", "wfi 0", "ret r1", "ret ret",
		"li r1", "li r1 ", "li 5", "li  5", "li r1 5 ", " li r1 5", "li  r1 5", "li r1  5", "li\tr1 5", "li r1\t5", "li\u00a0r1 5", "lir1 5", "lir1", "li r15", "li r1,5",
		"li r1 +5", "li r1 -0", "li r1 00", "li r1 05", "li r1 -05", "li r1 --5", "li r1 - 5", "li r1 −5", "li r1 5-", "li r1 -", "li r1 5.0", "li r1 1e3", "li r1 1_0", "li r1 0x5", "li r1 a", "li r1 5 5", "li r1 r5", "li r1 ٥", "li r1 ５",
		"li 1 5", "li R1 5", "Li r1 5", "LI r1 5", "li rr1 5", "li r 5", "li r r1 5", "li r01 5", "li r001 5", "li r+1 5", "li r-1 5", "li r1x 5", "li x1 5", "li 1r 5", "li r1_0 5", "li r٣ 5", "li -1 5",
		"add r1 r2", "add r1 r2 ", "add r1 r2 3", "add r1 r2 r3 ", "add r1 r2 r3 r4", "add r1 r2 r3 0", "add r1 2 r3", "add 1 r2 r3", "add r1 r2 -3", "add r1, r2, r3", "add r1  r2 r3",
		"addi r1 r2", "addi r1 r2 r3", "addi r1 2 3", "addi r1 5", "addi r2 r2 -1 ", "addi r1 r2 3 4",
		"rd r1", "rd r1 clock", "rd r1 10", "rd r1 07", "rd r1 -0", "wr 0 r1", "hvc", "hvc ", "hvc r1", "hvc r1 1", "hvc 1 2", "hvc  1", "hvc 01",
	} {
		if o, e := Read(line); o != (code.Op{}) || e != api.ErrForm {
			t.Errorf("Read(%q) = %v, %d", line, o, e)
		}
		if isLine(line) {
			t.Errorf("the test's own pattern takes %q", line)
		}
	}
}

// TestLinesNearRightOnes changes right lines by one byte: most are then of none, the others are of another instruction.
func TestLinesNearRightOnes(t *testing.T) {
	const signs = "\x00\t\n +-;,._0159arlhxR\x80\xff"
	for _, o := range someRight() {
		if o.A != o.B && o.B != o.C {
			continue
		}
		line := Show(o)
		for at := range len(line) + 1 {
			for _, s := range []byte(signs) {
				check(t, line[:at]+string([]byte{s})+line[at:])
				if at < len(line) {
					check(t, line[:at]+string([]byte{s})+line[at+1:])
				}
			}
			if at < len(line) {
				check(t, line[:at]+line[at+1:])
			}
		}
	}
}

func check(t *testing.T, line string) {
	t.Helper()
	o, e := Read(line)
	if isLine(line) {
		if e != api.OK || shown(o) != line {
			t.Fatalf("Read(%q) = %v, %d", line, o, e)
		}
	} else if e != api.ErrForm || o != (code.Op{}) {
		t.Fatalf("Read(%q) = %v, %d", line, o, e)
	}
}

func TestLay(t *testing.T) {
	for _, c := range []struct {
		lines string
		p     []byte
	}{
		{"nop", []byte{0, 0, 0, 0}},
		{"li r1 5", []byte{5, 0, 0x40, 4}},
		{"li r1 65;hvc 0", []byte{65, 0, 0x40, 4, 0, 0, 0, 0x50}},
		{" li r1 65; hvc 0 ", []byte{65, 0, 0x40, 4, 0, 0, 0, 0x50}},
		{"   li r1 65   ;   hvc 0   ", []byte{65, 0, 0x40, 4, 0, 0, 0, 0x50}},
		{"beq r10 r10 -1; ret ;lu r15 -2", []byte{0xff, 0xff, 0xa8, 0x3a, 0, 0, 0, 0x58, 0xfe, 0xff, 0xc0, 0x0b}},
	} {
		if p, at, e := Lay(c.lines); !slices.Equal(p, c.p) || at != 0 || e != api.OK {
			t.Errorf("Lay(%q) = %x, %d, %d; want %x", c.lines, p, at, e, c.p)
		}
	}
}

func TestLayOfWhatIsNone(t *testing.T) {
	for lines, place := range map[string]int{
		"":                     0,
		" ":                    0,
		";":                    0,
		";nop":                 0,
		" ; nop":               0,
		"nop;":                 1,
		"nop; ":                1,
		"nop;;nop":             1,
		"nop; ; nop":           1,
		"nop; nop; what":       2,
		"nop; what; what":      1,
		"what; nop; what":      0,
		"nop\n":                0,
		"\tnop":                0,
		"nop;\tnop":            1,
		"nop;nop\u00a0":        1,
		"nop;nop\r;nop":        1,
		"nop nop":              0,
		"nop, nop":             0,
		"nop; li  r1 5":        1,
		"nop; li r16 5; nop":   1,
		"nop;nop;nop;rd r0 9":  3,
		"nop; li r1 ; 5":       1,
		"?":                    0,
		"nop;\u3000nop":        1,
		"\x00; nop":            0,
		"nop;nop;nop;nop;nop;": 5,
	} {
		if p, at, e := Lay(lines); len(p) != 0 || at != place || e != api.ErrForm {
			t.Errorf("Lay(%q) = %x, %d, %d; want place %d", lines, p, at, e, place)
		}
	}
}

func TestLaidAndListedAgain(t *testing.T) {
	var lines []string
	for _, o := range someRight() {
		lines = append(lines, Show(o))
	}
	for _, gap := range []string{";", "; ", " ;", "  ;  "} {
		p, at, e := Lay(strings.Join(lines, gap))
		if len(p) != 4*len(lines) || at != 0 || e != api.OK {
			t.Fatalf("%d bytes of %d lines, %d, %d", len(p), len(lines), at, e)
		}
		for i, o := range someRight() {
			if w, _ := code.Encode(o); binary.LittleEndian.Uint32(p[4*i:]) != w {
				t.Fatalf("%v: %x, want %08x", o, p[4*i:4*i+4], w)
			}
		}
		if !slices.Equal(List(p), lines) {
			t.Fatal("other lines")
		}
	}
}

func TestList(t *testing.T) {
	whole := []byte{65, 0, 0x40, 4, 0xff, 0xff, 0xff, 0xff, 0, 0, 0, 0x50, 1, 0, 0, 0, 0, 0, 0, 0}
	want := []string{"li r1 65", "?", "hvc 0", "?", "nop"}
	for n := range len(whole) + 1 {
		p := slices.Clone(whole[:n])
		if lines := List(p); !slices.Equal(lines, want[:n/4]) {
			t.Errorf("List(%x) = %q; want %q", p, lines, want[:n/4])
		}
		if !slices.Equal(p, whole[:n]) {
			t.Errorf("List has changed %x to %x", whole[:n], p)
		}
	}
	if lines := List(nil); len(lines) != 0 {
		t.Errorf("List(nil) = %q", lines)
	}
	if lines := List([]byte{}); len(lines) != 0 {
		t.Errorf("List of no bytes = %q", lines)
	}
	for _, w := range []uint32{1, 1 << 16, 1 << 17, uint32(code.Last) << 26, 0x48000009, 0x0c480013, 0x50400001} {
		if lines := List(binary.LittleEndian.AppendUint32(nil, w)); !slices.Equal(lines, []string{"?"}) {
			t.Errorf("%08x: %q", w, lines)
		}
	}
}

func TestAnswersAreNew(t *testing.T) {
	p, _, _ := Lay("li r1 65; hvc 0")
	q, _, _ := Lay("li r1 65; hvc 0")
	clear(p)
	if again, _, _ := Lay("li r1 65; hvc 0"); !slices.Equal(q, again) || slices.Equal(p, again) {
		t.Errorf("%x, %x", q, again)
	}
	lines := List(q)
	lines[0] = "other"
	if again := List(q); again[0] != "li r1 65" {
		t.Errorf("%q", again)
	}
}

func FuzzRead(f *testing.F) {
	for _, line := range []string{"nop", "li r1 -5", "add r1 r2 r15", "hvc 32767", "addi r2 r2 -32768", "rd r3 8", " nop", "li r01 5"} {
		f.Add(line)
	}
	f.Fuzz(func(t *testing.T, line string) { check(t, line) })
}

func FuzzLay(f *testing.F) {
	for _, lines := range []string{"", "nop", " li r1 65; hvc 0 ", "nop; nop; what", ";;", "nop;\tnop"} {
		f.Add(lines)
	}
	f.Fuzz(func(t *testing.T, lines string) {
		p, at, e := Lay(lines)
		var want []string
		for i, line := range strings.Split(lines, ";") {
			for strings.HasPrefix(line, " ") {
				line = line[1:]
			}
			for strings.HasSuffix(line, " ") {
				line = line[:len(line)-1]
			}
			if !isLine(line) {
				if len(p) != 0 || at != i || e != api.ErrForm {
					t.Fatalf("Lay(%q) = %x, %d, %d; want place %d", lines, p, at, e, i)
				}
				return
			}
			want = append(want, line)
		}
		if at != 0 || e != api.OK || len(p) != 4*len(want) || !slices.Equal(List(p), want) {
			t.Fatalf("Lay(%q) = %x, %d, %d", lines, p, at, e)
		}
	})
}
