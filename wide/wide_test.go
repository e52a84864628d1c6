package wide

import (
	"math"
	"math/big"
	"testing"
)

const m = math.MaxUint64

var g = Num{m, m}

// The tests hold the package against math/big, which has no edges at 64 and 128 bits.

func bigOf(a Num) *big.Int {
	x := new(big.Int).SetUint64(a.Hi)
	return x.Add(x.Lsh(x, 64), new(big.Int).SetUint64(a.Lo))
}

func lowest128(x *big.Int) Num {
	word := new(big.Int).SetUint64(m)
	lo := new(big.Int).And(x, word).Uint64()
	hi := new(big.Int).And(new(big.Int).Rsh(x, 64), word).Uint64()
	return Num{hi, lo}
}

func fits(x *big.Int) bool { return x.Sign() >= 0 && x.BitLen() <= 128 }

// capped: what Add and Times tell of a number that may be too great.
func capped(x *big.Int) (Num, bool) {
	if !fits(x) {
		return g, false
	}
	return lowest128(x), true
}

// mixed goes through numbers without an order, always the same ones.
func mixed(seed uint64) uint64 {
	seed += 0x9e3779b97f4a7c15
	seed = (seed ^ seed>>30) * 0xbf58476d1ce4e5b9
	seed = (seed ^ seed>>27) * 0x94d049bb133111eb
	return seed ^ seed>>31
}

func words() []uint64 {
	l := []uint64{0, 1, 2, 3, 5, 7, 10, 1<<32 - 1, 1 << 32, 1<<32 + 1, 1<<63 - 1, 1 << 63, 1<<63 + 1, m - 2, m - 1, m}
	for i := range uint64(24) {
		l = append(l, mixed(i)>>(i*8/3))
	}
	return l
}

func nums() []Num {
	var l []Num
	few := []uint64{0, 1, 2, 1<<32 - 1, 1 << 32, 1 << 63, m - 1, m}
	for _, hi := range few {
		for _, lo := range few {
			l = append(l, Num{hi, lo})
		}
	}
	for i := range uint64(64) {
		l = append(l, Num{mixed(2*i) >> i, mixed(2*i + 1)})
	}
	return l
}

func shifts() []int {
	l := []int{math.MinInt, math.MinInt + 64, -1 << 32, -129, -128, -65, -64, -2, -1}
	for n := range 132 {
		l = append(l, n)
	}
	// Some whose lower bits alone would be a short shift.
	return append(l, 191, 192, 255, 256, 257, 256+64, 256+65, 1<<16+64, 1<<32, 1<<32+1, 1<<32+64, 1<<62, math.MaxInt-63, math.MaxInt)
}

func TestP11Of(t *testing.T) {
	for _, n := range words() {
		if x := Of(n); x != (Num{0, n}) {
			t.Errorf("Of(%d): %v", n, x)
		}
	}
}

func TestP11Mul(t *testing.T) {
	for _, a := range words() {
		for _, b := range words() {
			want := lowest128(new(big.Int).Mul(bigOf(Of(a)), bigOf(Of(b))))
			if x := Mul(a, b); x != want {
				t.Errorf("Mul(%d, %d): %v, not %v", a, b, x, want)
			}
		}
	}
}

func TestP12Add(t *testing.T) {
	for _, a := range nums() {
		for _, b := range nums() {
			want, fit := capped(new(big.Int).Add(bigOf(a), bigOf(b)))
			if x, ok := Add(a, b); x != want || ok != fit {
				t.Errorf("Add(%v, %v): %v %v, not %v %v", a, b, x, ok, want, fit)
			}
		}
	}
}

func TestP12Sub(t *testing.T) {
	for _, a := range nums() {
		for _, b := range nums() {
			want, fit := Num{}, false
			if x := new(big.Int).Sub(bigOf(a), bigOf(b)); x.Sign() >= 0 {
				want, fit = lowest128(x), true
			}
			if x, ok := Sub(a, b); x != want || ok != fit {
				t.Errorf("Sub(%v, %v): %v %v, not %v %v", a, b, x, ok, want, fit)
			}
		}
	}
}

func TestP12Times(t *testing.T) {
	for _, a := range nums() {
		for _, b := range words() {
			want, fit := capped(new(big.Int).Mul(bigOf(a), bigOf(Of(b))))
			if x, ok := Times(a, b); x != want || ok != fit {
				t.Errorf("Times(%v, %d): %v %v, not %v %v", a, b, x, ok, want, fit)
			}
		}
	}
}

// The two ways in which a product is too great: by its upper word alone, and by the carry out of the lower one.
func TestP12TimesEdges(t *testing.T) {
	for _, k := range []struct {
		a    Num
		b    uint64
		want Num
		ok   bool
	}{
		{g, 0, Num{}, true},
		{g, 1, g, true},
		{g, 2, g, false},
		{Num{1, 1}, m, g, true},
		{Num{1, 2}, m, g, false},
		{Num{m, 0}, 1, Num{m, 0}, true},
		{Num{1 << 63, 0}, 2, g, false},
		{Num{1<<63 - 1, m}, 2, Num{m, m - 1}, true},
		{Num{1 << 32, 0}, 1 << 32, g, false},
	} {
		if x, ok := Times(k.a, k.b); x != k.want || ok != k.ok {
			t.Errorf("Times(%v, %d): %v %v, not %v %v", k.a, k.b, x, ok, k.want, k.ok)
		}
	}
}

func TestP13Div(t *testing.T) {
	for _, a := range nums() {
		for _, b := range words() {
			if b == 0 {
				continue
			}
			quotient, rest := new(big.Int).QuoRem(bigOf(a), bigOf(Of(b)), new(big.Int))
			q, r, ok := Div(a, b)
			if q != lowest128(quotient) || r != rest.Uint64() || !ok {
				t.Errorf("Div(%v, %d): %v %d %v, not %v %v", a, b, q, r, ok, quotient, rest)
			}
		}
	}
}

func TestP13DivByNothing(t *testing.T) {
	for _, a := range nums() {
		if q, r, ok := Div(a, 0); q != (Num{}) || r != 0 || ok {
			t.Errorf("Div(%v, 0): %v %d %v", a, q, r, ok)
		}
	}
}

func TestP14Cmp(t *testing.T) {
	for _, a := range nums() {
		for _, b := range nums() {
			if x, want := Cmp(a, b), bigOf(a).Cmp(bigOf(b)); x != want {
				t.Errorf("Cmp(%v, %v): %d, not %d", a, b, x, want)
			}
		}
	}
}

// wantShifts: a bit beyond 128 is lost either way, so that a longer shift of math/big need not be tried.
func wantShifts(a Num, n int) (up, down Num) {
	if n < 0 {
		return a, a
	}
	by := uint(min(n, 128))
	return lowest128(new(big.Int).Lsh(bigOf(a), by)), lowest128(new(big.Int).Rsh(bigOf(a), by))
}

func TestP15Shifts(t *testing.T) {
	for _, a := range nums() {
		for _, n := range shifts() {
			up, down := wantShifts(a, n)
			if x := Shl(a, n); x != up {
				t.Errorf("Shl(%v, %d): %v, not %v", a, n, x, up)
			}
			if x := Shr(a, n); x != down {
				t.Errorf("Shr(%v, %d): %v, not %v", a, n, x, down)
			}
		}
	}
}

func TestP16Sqrt(t *testing.T) {
	for _, a := range nums() {
		if r, want := Sqrt(a), new(big.Int).Sqrt(bigOf(a)); r != want.Uint64() {
			t.Errorf("Sqrt(%v): %d, not %v", a, r, want)
		}
	}
}

func TestP16SqrtOfSmallNumbers(t *testing.T) {
	root := uint64(0)
	for a := range uint64(5000) {
		if (root+1)*(root+1) <= a {
			root++
		}
		if r := Sqrt(Of(a)); r != root {
			t.Errorf("Sqrt(%d): %d, not %d", a, r, root)
		}
	}
}

func TestP16SqrtNextToSquares(t *testing.T) {
	roots := words()
	for i := range 64 {
		roots = append(roots, 1<<i, 1<<i-1, 1<<i+1)
	}
	for _, n := range roots {
		square := Mul(n, n)
		if r := Sqrt(square); r != n {
			t.Errorf("root of the square of %d: %d", n, r)
		}
		if n == 0 {
			continue
		}
		below, _ := Sub(square, Of(1))
		if r := Sqrt(below); r != n-1 {
			t.Errorf("root of one below the square of %d: %d", n, r)
		}
		above, _ := Add(square, Of(1))
		if r := Sqrt(above); r != n {
			t.Errorf("root of one above the square of %d: %d", n, r)
		}
		// The last number ahead of the next square, n*n + 2n.
		last, _ := Add(square, Mul(n, 2))
		if r := Sqrt(last); r != n {
			t.Errorf("root of the last number ahead of the square behind that of %d: %d", n, r)
		}
	}
}

func TestP17AddAndSub(t *testing.T) {
	for _, a := range nums() {
		for _, b := range nums() {
			if sum, fit := Add(a, b); fit {
				if x, ok := Sub(sum, b); x != a || !ok {
					t.Errorf("%v and %v, less %v: %v %v", a, b, b, x, ok)
				}
			}
			if less, fit := Sub(a, b); fit {
				if x, ok := Add(less, b); x != a || !ok {
					t.Errorf("%v less %v, and %v: %v %v", a, b, b, x, ok)
				}
			}
		}
	}
}

func TestP17TimesAndDiv(t *testing.T) {
	for _, a := range nums() {
		for _, b := range words() {
			if product, fit := Times(a, b); fit && b != 0 {
				if x, rest, ok := Div(product, b); x != a || rest != 0 || !ok {
					t.Errorf("%v times %d, by %d: %v %d %v", a, b, b, x, rest, ok)
				}
			}
			q, r, ok := Div(a, b)
			if ok != (b != 0) {
				t.Errorf("Div(%v, %d): %v", a, b, ok)
			}
			if !ok {
				continue
			}
			if r >= b {
				t.Errorf("Div(%v, %d): the rest is %d", a, b, r)
			}
			back, fit := Times(q, b)
			if all, ok := Add(back, Of(r)); all != a || !fit || !ok {
				t.Errorf("Div(%v, %d): %v %d, which are %v", a, b, q, r, all)
			}
		}
	}
}

func TestP17ShlAndShr(t *testing.T) {
	for _, a := range nums() {
		for _, n := range shifts() {
			if n < 0 || bigOf(a).BitLen()+min(n, 128) <= 128 {
				if x := Shr(Shl(a, n), n); x != a {
					t.Errorf("%v up by %d, and down: %v", a, n, x)
				}
			}
			if n < 0 || a == (Num{}) || bigOf(a).TrailingZeroBits() >= uint(n) {
				if x := Shl(Shr(a, n), n); x != a {
					t.Errorf("%v down by %d, and up: %v", a, n, x)
				}
			}
		}
	}
}

func TestExamplesOfPairs(t *testing.T) {
	type answer struct {
		num Num
		ok  bool
	}
	pair := func(x Num, ok bool) answer { return answer{x, ok} }
	for _, k := range []struct {
		call      string
		got, want answer
	}{
		{"Add({0, m}, {0, 1})", pair(Add(Num{0, m}, Num{0, 1})), answer{Num{1, 0}, true}},
		{"Add(g, {0, 1})", pair(Add(g, Num{0, 1})), answer{g, false}},
		{"Sub({1, 0}, {0, 1})", pair(Sub(Num{1, 0}, Num{0, 1})), answer{Num{0, m}, true}},
		{"Sub({0, 1}, {1, 0})", pair(Sub(Num{0, 1}, Num{1, 0})), answer{Num{0, 0}, false}},
		{"Times({1, 0}, 5)", pair(Times(Num{1, 0}, 5)), answer{Num{5, 0}, true}},
		{"Times({2^63, 0}, 2)", pair(Times(Num{1 << 63, 0}, 2)), answer{g, false}},
	} {
		if k.got != k.want {
			t.Errorf("%s: %v, not %v", k.call, k.got, k.want)
		}
	}
}

func TestExamplesOfDiv(t *testing.T) {
	for _, k := range []struct {
		a    Num
		b    uint64
		q    Num
		rest uint64
		ok   bool
	}{
		{Num{1, 0}, 3, Num{0, 6148914691236517205}, 1, true},
		{Num{0, 7}, 0, Num{0, 0}, 0, false},
		{g, m, Num{1, 1}, 0, true},
	} {
		if q, rest, ok := Div(k.a, k.b); q != k.q || rest != k.rest || ok != k.ok {
			t.Errorf("Div(%v, %d): %v %d %v", k.a, k.b, q, rest, ok)
		}
	}
}

func TestExamplesOfNumbers(t *testing.T) {
	for _, k := range []struct {
		call      string
		got, want Num
	}{
		{"Mul(m, m)", Mul(m, m), Num{m - 1, 1}},
		{"Mul(3, 5)", Mul(3, 5), Num{0, 15}},
		{"Shl({0, 1}, 64)", Shl(Num{0, 1}, 64), Num{1, 0}},
		{"Shl({1, 1}, 64)", Shl(Num{1, 1}, 64), Num{1, 0}},
		{"Shr({1, 0}, 1)", Shr(Num{1, 0}, 1), Num{0, 1 << 63}},
		{"Shl({0, 5}, -1)", Shl(Num{0, 5}, -1), Num{0, 5}},
		{"Shr(g, 128)", Shr(g, 128), Num{0, 0}},
		{"Sqrt({0, 15})", Of(Sqrt(Num{0, 15})), Num{0, 3}},
		{"Sqrt({0, 16})", Of(Sqrt(Num{0, 16})), Num{0, 4}},
		{"Sqrt({2^63, 0})", Of(Sqrt(Num{1 << 63, 0})), Num{0, 13043817825332782212}},
		{"Sqrt(g)", Of(Sqrt(g)), Num{0, m}},
	} {
		if k.got != k.want {
			t.Errorf("%s: %v, not %v", k.call, k.got, k.want)
		}
	}
}
