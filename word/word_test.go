package word

import (
	"bytes"
	"math"
	"math/big"
	"testing"
)

const all = math.MaxUint64

// Words with ones at the ends, in the middle, everywhere and nowhere.
var words = []uint64{
	0, 1, 2, 5, 0x80, 0xf0, 0xff, 0x1ff, 0x8000, 1 << 31, 1 << 32, 1<<32 - 1,
	1 << 62, 1 << 63, 1<<63 - 1, 1<<63 | 1, all - 1, all,
	0x0123456789abcdef, 0xfedcba9876543210, 0xaaaaaaaaaaaaaaaa, 0x5555555555555555, 0x9e3779b97f4a7c15,
}

// Numbers within 0 to 64, beside these ends, and as far out as a number can be.
var places = append(span(-3, 130), math.MinInt, math.MinInt+1, math.MinInt32, math.MaxInt32, math.MaxInt-63, math.MaxInt-1, math.MaxInt)

func span(from, to int) []int {
	var l []int
	for i := from; i <= to; i++ {
		l = append(l, i)
	}
	return l
}

func bit(w uint64, i int) uint64 {
	if i < 0 || i > 63 {
		return 0
	}
	return w / (1 << i) % 2
}

// The following three go bit by bit, by the chapter's words.

func slowField(w uint64, at, n int) uint64 {
	var v uint64
	for i := 0; i < 64 && at >= 0 && at <= 63 && i < n; i++ {
		v += bit(w, at+i) << i
	}
	return v
}

func slowWith(w uint64, at, n int, v uint64) uint64 {
	if at < 0 || at > 63 || n < 1 {
		return w
	}
	var r uint64
	for i := range 64 {
		if i >= at && i-at < n {
			r += bit(v, i-at) << i
		} else {
			r += bit(w, i) << i
		}
	}
	return r
}

func slowSign(v uint64, n int) uint64 {
	if n < 1 || n > 64 {
		return 0
	}
	r := new(big.Int)
	for i := range n {
		part := new(big.Int).Lsh(big.NewInt(int64(bit(v, i))), uint(i))
		if i == n-1 {
			part.Neg(part)
		}
		r.Add(r, part)
	}
	return uint64(r.Int64())
}

func TestFieldOfSomeBits(t *testing.T) {
	for _, c := range []struct {
		w     uint64
		at, n int
		want  uint64
	}{
		{0xf0, 4, 4, 15},
		{0xf0, 0, 4, 0},
		{0xf0, 3, 2, 2},
		{0x0123456789abcdef, 8, 16, 0xabcd},
		{all, 0, 64, all},
		{all, 0, 63, 1<<63 - 1},
		{all, 0, 1, 1},
		{1 << 63, 63, 1, 1},
		{all, 60, 4, 15},
	} {
		if got := Field(c.w, c.at, c.n); got != c.want {
			t.Errorf("Field(%x, %d, %d) = %x, not %x", c.w, c.at, c.n, got, c.want)
		}
	}
}

func TestFieldAboveBit63IsNoughts(t *testing.T) {
	for _, c := range []struct {
		at, n int
		want  uint64
	}{
		{60, 5, 15}, {63, 2, 1}, {63, math.MaxInt, 1}, {1, 64, 1<<63 - 1}, {0, 65, all}, {0, math.MaxInt, all}, {32, 99, 1<<32 - 1},
	} {
		if got := Field(all, c.at, c.n); got != c.want {
			t.Errorf("Field(all, %d, %d) = %x, not %x", c.at, c.n, got, c.want)
		}
	}
}

func TestFieldOfNoBitsIsNought(t *testing.T) {
	for _, c := range [][2]int{
		{-1, 1}, {-1, 64}, {64, 1}, {65, 8}, {math.MinInt, 1}, {math.MaxInt, 1}, {math.MaxInt, math.MaxInt},
		{0, 0}, {0, -1}, {63, 0}, {5, math.MinInt}, {-1, 0}, {64, -1},
	} {
		if got := Field(all, c[0], c[1]); got != 0 {
			t.Errorf("Field(all, %d, %d) = %x", c[0], c[1], got)
		}
	}
}

func TestWithSomeBits(t *testing.T) {
	for _, c := range []struct {
		w     uint64
		at, n int
		v     uint64
		want  uint64
	}{
		{0, 8, 8, 0x1ff, 0xff00},
		{all, 8, 8, 0, all - 0xff00},
		{all, 8, 8, 0x100, all - 0xff00},
		{0x1234, 4, 8, 0xab, 0x1ab4},
		{1, 0, 64, 9, 9},
		{all, 0, 64, 0, 0},
		{0, 63, 1, 1, 1 << 63},
		{all, 63, 1, 0, 1<<63 - 1},
		{all, 0, 1, 2, all - 1},
	} {
		if got := With(c.w, c.at, c.n, c.v); got != c.want {
			t.Errorf("With(%x, %d, %d, %x) = %x, not %x", c.w, c.at, c.n, c.v, got, c.want)
		}
	}
}

func TestWithLosesBitsAbove63(t *testing.T) {
	for _, c := range []struct {
		w     uint64
		at, n int
		v     uint64
		want  uint64
	}{
		{0, 60, 8, 255, 15 << 60},
		{1, 60, 8, 0xf0, 1},
		{all, 60, 8, 0xf0, 1<<60 - 1},
		{0, 63, 2, 3, 1 << 63},
		{5, 63, math.MaxInt, 1, 1<<63 | 5},
		{5, 0, math.MaxInt, 9, 9},
		{5, 0, 65, all, all},
		{7, 1, 64, 0, 1},
	} {
		if got := With(c.w, c.at, c.n, c.v); got != c.want {
			t.Errorf("With(%x, %d, %d, %x) = %x, not %x", c.w, c.at, c.n, c.v, got, c.want)
		}
	}
}

func TestWithNoBitsIsTheWord(t *testing.T) {
	for _, c := range [][2]int{
		{-1, 3}, {64, 1}, {math.MinInt, 64}, {math.MaxInt, math.MaxInt}, {0, 0}, {0, -1}, {63, math.MinInt}, {-1, 0},
	} {
		for _, w := range words {
			if got := With(w, c[0], c[1], ^w); got != w {
				t.Errorf("With(%x, %d, %d, %x) = %x", w, c[0], c[1], ^w, got)
			}
		}
	}
}

func TestFieldAndWithBitByBit(t *testing.T) {
	for k, w := range words {
		v := words[(k+7)%len(words)]
		for _, at := range places {
			for _, n := range places {
				if got, want := Field(w, at, n), slowField(w, at, n); got != want {
					t.Fatalf("Field(%x, %d, %d) = %x, not %x", w, at, n, got, want)
				}
				if got, want := With(w, at, n, v), slowWith(w, at, n, v); got != want {
					t.Fatalf("With(%x, %d, %d, %x) = %x, not %x", w, at, n, v, got, want)
				}
			}
		}
	}
}

func TestSignOfSomeBits(t *testing.T) {
	for _, c := range []struct {
		v    uint64
		n    int
		want int64
	}{
		{8, 4, -8}, {7, 4, 7}, {15, 4, -1}, {0, 4, 0},
		{0x18, 4, -8}, {0x17, 4, 7}, {all - 8, 4, 7},
		{0, 1, 0}, {1, 1, -1}, {2, 1, 0},
		{0x8000, 16, -32768}, {0x7fff, 16, 32767}, {0xffff, 16, -1},
		{1 << 62, 63, -1 << 62}, {1 << 63, 63, 0},
		{9, 64, 9}, {all, 64, -1}, {1 << 63, 64, math.MinInt64}, {1<<63 - 1, 64, math.MaxInt64},
	} {
		if got := Sign(c.v, c.n); got != uint64(c.want) {
			t.Errorf("Sign(%x, %d) = %x, not %x", c.v, c.n, got, uint64(c.want))
		}
	}
}

func TestSignOfNoSuchCountIsNought(t *testing.T) {
	for _, n := range []int{0, -1, -64, math.MinInt, 65, 66, 128, math.MaxInt} {
		if got := Sign(all, n); got != 0 {
			t.Errorf("Sign(all, %d) = %x", n, got)
		}
	}
}

func TestSignBitByBit(t *testing.T) {
	for _, v := range words {
		for _, n := range places {
			if got, want := Sign(v, n), slowSign(v, n); got != want {
				t.Errorf("Sign(%x, %d) = %x, not %x", v, n, got, want)
			}
		}
	}
}

func TestBytesLowestFirst(t *testing.T) {
	for _, c := range []struct {
		w    uint64
		want []byte
	}{
		{0, []byte{0, 0, 0, 0, 0, 0, 0, 0}},
		{0x0102, []byte{2, 1, 0, 0, 0, 0, 0, 0}},
		{0x0123456789abcdef, []byte{0xef, 0xcd, 0xab, 0x89, 0x67, 0x45, 0x23, 0x01}},
		{1 << 63, []byte{0, 0, 0, 0, 0, 0, 0, 0x80}},
		{all, []byte{255, 255, 255, 255, 255, 255, 255, 255}},
	} {
		if got := Bytes(c.w); !bytes.Equal(got, c.want) {
			t.Errorf("Bytes(%x) = %x, not %x", c.w, got, c.want)
		}
	}
}

func TestBytesAreNewEachTime(t *testing.T) {
	p := Bytes(5)
	p[0] = 9
	_ = append(p, 1)
	if q := Bytes(5); q[0] != 5 || len(q) != 8 || p[0] != 9 {
		t.Error(p, q)
	}
}

func TestOfFirstEight(t *testing.T) {
	for _, c := range []struct {
		p    []byte
		want uint64
	}{
		{nil, 0},
		{[]byte{}, 0},
		{[]byte{5}, 5},
		{[]byte{0, 5}, 0x0500},
		{[]byte{1, 2, 3, 4, 5, 6, 7}, 0x07060504030201},
		{[]byte{1, 2, 3, 4, 5, 6, 7, 8}, 0x0807060504030201},
		{[]byte{1, 2, 3, 4, 5, 6, 7, 8, 9}, 0x0807060504030201},
		{[]byte{0, 0, 0, 0, 0, 0, 0, 0, 255}, 0},
		{bytes.Repeat([]byte{255}, 300), all},
	} {
		before := bytes.Clone(c.p)
		if got := Of(c.p); got != c.want {
			t.Errorf("Of(%x) = %x, not %x", c.p, got, c.want)
		}
		if !bytes.Equal(before, c.p) {
			t.Errorf("Of has changed %x to %x", before, c.p)
		}
	}
}

func TestOfDoesNotLookBehindTheEnd(t *testing.T) {
	p := []byte{1, 2, 3, 4}
	if got := Of(p[:2]); got != 0x0201 {
		t.Errorf("%x", got)
	}
}

func TestOfBytesIsTheWord(t *testing.T) {
	for _, w := range words {
		if got := Of(Bytes(w)); got != w {
			t.Errorf("Of(Bytes(%x)) = %x", w, got)
		}
	}
}

// slowMix multiplies by numbers of any length, by the chapter's words.
func slowMix(sum, w uint64) uint64 {
	k := new(big.Int).SetUint64(0x9e3779b97f4a7c15)
	m := new(big.Int).SetUint64(sum ^ w)
	m.Mul(m, k)
	upper := new(big.Int).Rsh(m, 64).Uint64()
	lower := new(big.Int).And(m, new(big.Int).SetUint64(all)).Uint64()
	return (upper<<17 + upper>>47) ^ lower
}

func TestMixOfSomeWords(t *testing.T) {
	for _, c := range []struct{ sum, w, want uint64 }{
		{0, 0, 0},
		{7, 7, 0},
		{0, 1, 0x9e3779b97f4a7c15},
		{1, 0, 0x9e3779b97f4a7c15},
		// Twice the factor: 1 above, turned to bit 17.
		{0, 2, 0x3c6ef372fe94f82a ^ 1<<17},
		{3, 1, 0x3c6ef372fe94f82a ^ 1<<17},
		// 2^64 - 1 times the factor: one less than it above, 2^64 less it below.
		{0, all, 0xf372fe94f8293c6e ^ 0x61c8864680b583eb},
	} {
		if got := Mix(c.sum, c.w); got != c.want {
			t.Errorf("Mix(%x, %x) = %x, not %x", c.sum, c.w, got, c.want)
		}
	}
}

func TestMixByLongNumbers(t *testing.T) {
	for _, sum := range words {
		for _, w := range words {
			if got, want := Mix(sum, w), slowMix(sum, w); got != want {
				t.Errorf("Mix(%x, %x) = %x, not %x", sum, w, got, want)
			}
		}
	}
}

func TestFirst(t *testing.T) {
	if got := First(0); got != 64 {
		t.Errorf("First(0) = %d", got)
	}
	if got := First(12); got != 2 {
		t.Errorf("First(12) = %d", got)
	}
	for i := range 64 {
		one := uint64(1) << i
		for _, w := range []uint64{one, one | 1<<63, all << i} {
			if got := First(w); got != i {
				t.Errorf("First(%x) = %d, not %d", w, got, i)
			}
		}
	}
}

// P2: nothing is kept from call to call, so that the same calls, in whatever order, answer the same.
func TestSameCallsAnswerTheSame(t *testing.T) {
	told := func(w uint64) [6]uint64 {
		return [6]uint64{Field(w, 3, 9), With(w, 3, 9, ^w), Sign(w, 9), Of(Bytes(w)), Mix(w, 3), uint64(First(w))}
	}
	var ahead [][6]uint64
	for _, w := range words {
		ahead = append(ahead, told(w))
	}
	for i := len(words) - 1; i >= 0; i-- {
		if got := told(words[i]); got != ahead[i] {
			t.Errorf("%x: %x, then %x", words[i], ahead[i], got)
		}
	}
}
