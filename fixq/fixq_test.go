package fixq

import (
	"math"
	"math/big"
	"slices"
	"testing"

	"backfill/api"
)

const (
	q = api.QOne
	m = math.MaxUint64
)

// answer: what a call with two results tells.
type answer struct {
	number uint64
	fits   bool
}

func pair(n uint64, fits bool) answer { return answer{n, fits} }

// The tests hold the package against math/big, which has no edge at 64 bits.

func bigOf(n uint64) *big.Int { return new(big.Int).SetUint64(n) }

// capped: what is told of a number that may be too great.
func capped(x *big.Int) answer {
	if !x.IsUint64() {
		return answer{m, false}
	}
	return answer{x.Uint64(), true}
}

// ratio is a * b / c, rounded down and up; of c 0 it is too great for any word.
func ratio(a, b, c uint64) (down, up *big.Int, exact bool) {
	if c == 0 {
		beyond := new(big.Int).Lsh(big.NewInt(1), 64)
		return beyond, beyond, true
	}
	down, rest := new(big.Int).QuoRem(new(big.Int).Mul(bigOf(a), bigOf(b)), bigOf(c), new(big.Int))
	if rest.Sign() == 0 {
		return down, down, true
	}
	return down, new(big.Int).Add(down, big.NewInt(1)), false
}

// mixed goes through numbers without an order, always the same ones.
func mixed(seed uint64) uint64 {
	seed += 0x9e3779b97f4a7c15
	seed = (seed ^ seed>>30) * 0xbf58476d1ce4e5b9
	seed = (seed ^ seed>>27) * 0x94d049bb133111eb
	return seed ^ seed>>31
}

// words rise, so that neighbours show whether a call rises or falls.
func words() []uint64 {
	l := []uint64{0, 1, 2, 3, 5, 7, 10, 1 << 31, q - 1, q, q + 1, 3 * q, 3*q + 5, q << 16, 1<<63 - 1, 1 << 63, 1<<63 + 1, m - q, m - q + 1, m - 2, m - 1, m}
	for i := range uint64(64) {
		l = append(l, 1<<i, mixed(i)>>i)
	}
	slices.Sort(l)
	return slices.Compact(l)
}

func TestP41Of(t *testing.T) {
	for _, n := range []int{0, 1, 2, 3, 1000, 1 << 16, 1<<31 - 1, 1 << 31, 1<<31 + 1, q - 2, q - 1} {
		if x := pair(Of(n)); x != (answer{uint64(n) * q, true}) {
			t.Errorf("Of(%d): %v", n, x)
		}
	}
	// Some whose lower 32 bits alone would fit.
	for _, n := range []int{q, q + 1, q + 7, 2*q - 1, 2 * q, q << 16, 1 << 62, math.MaxInt - 1, math.MaxInt} {
		if x := pair(Of(n)); x != (answer{m, false}) {
			t.Errorf("Of(%d): %v", n, x)
		}
	}
	for _, n := range []int{-1, -2, -q + 1, -q, -q - 1, -1 << 62, math.MinInt + 1, math.MinInt} {
		if x := pair(Of(n)); x != (answer{0, false}) {
			t.Errorf("Of(%d): %v", n, x)
		}
	}
}

func TestP41Floor(t *testing.T) {
	for _, a := range words() {
		want := new(big.Int).Div(bigOf(a), bigOf(q))
		if n := Floor(a); !want.IsInt64() || int64(n) != want.Int64() {
			t.Errorf("Floor(%d): %d, not %v", a, n, want)
		}
	}
	for _, k := range []struct {
		a    uint64
		want int
	}{{0, 0}, {q - 1, 0}, {q, 1}, {2*q - 1, 1}, {1<<63 - 1, 1<<31 - 1}, {1 << 63, 1 << 31}, {m, q - 1}} {
		if n := Floor(k.a); n != k.want {
			t.Errorf("Floor(%d): %d, not %d", k.a, n, k.want)
		}
	}
}

func TestP41FloorOfOf(t *testing.T) {
	for _, n := range []int{0, 1, 3, 1 << 31, q - 1} {
		a, _ := Of(n)
		if Floor(a) != n || Floor(a+q-1) != n {
			t.Errorf("Floor of %d: %d, and just below the next one: %d", n, Floor(a), Floor(a+q-1))
		}
	}
}

func TestP42Add(t *testing.T) {
	for _, a := range words() {
		for _, b := range words() {
			want := capped(new(big.Int).Add(bigOf(a), bigOf(b)))
			if x := pair(Add(a, b)); x != want {
				t.Errorf("Add(%d, %d): %v, not %v", a, b, x, want)
			}
		}
	}
}

func TestP42AddEdges(t *testing.T) {
	for _, a := range words() {
		if x := pair(Add(a, m-a)); x != (answer{m, true}) {
			t.Errorf("Add(%d, %d), which just fit: %v", a, m-a, x)
		}
		if a == 0 {
			continue
		}
		if x := pair(Add(a, m-a+1)); x != (answer{m, false}) {
			t.Errorf("Add(%d, %d), which just do not fit: %v", a, m-a+1, x)
		}
	}
}

func TestP42Sub(t *testing.T) {
	for _, a := range words() {
		for _, b := range words() {
			want := answer{0, false}
			if b <= a {
				want = answer{a - b, true}
			}
			if x := pair(Sub(a, b)); x != want {
				t.Errorf("Sub(%d, %d): %v, not %v", a, b, x, want)
			}
		}
	}
}

func TestP42SubEdges(t *testing.T) {
	for _, a := range words() {
		if x := pair(Sub(a, a)); x != (answer{0, true}) {
			t.Errorf("Sub(%d, %d): %v", a, a, x)
		}
		if a == m {
			continue
		}
		if x := pair(Sub(a, a+1)); x != (answer{0, false}) {
			t.Errorf("Sub(%d, %d): %v", a, a+1, x)
		}
		if x := pair(Sub(a+1, a)); x != (answer{1, true}) {
			t.Errorf("Sub(%d, %d): %v", a+1, a, x)
		}
	}
}

func TestP43Mul(t *testing.T) {
	for _, a := range words() {
		for _, b := range words() {
			down, up, _ := ratio(a, b, q)
			if x := pair(MulDown(a, b)); x != capped(down) {
				t.Errorf("MulDown(%d, %d): %v, not %v", a, b, x, down)
			}
			if x := pair(MulUp(a, b)); x != capped(up) {
				t.Errorf("MulUp(%d, %d): %v, not %v", a, b, x, up)
			}
		}
	}
}

func TestP43Div(t *testing.T) {
	for _, a := range words() {
		for _, b := range words() {
			down, up, _ := ratio(a, q, b)
			if x := pair(DivDown(a, b)); x != capped(down) {
				t.Errorf("DivDown(%d, %d): %v, not %v", a, b, x, down)
			}
			if x := pair(DivUp(a, b)); x != capped(up) {
				t.Errorf("DivUp(%d, %d): %v, not %v", a, b, x, up)
			}
		}
	}
}

func TestP43DivByNothing(t *testing.T) {
	for _, a := range words() {
		if x := pair(DivDown(a, 0)); x != (answer{m, false}) {
			t.Errorf("DivDown(%d, 0): %v", a, x)
		}
		if x := pair(DivUp(a, 0)); x != (answer{m, false}) {
			t.Errorf("DivUp(%d, 0): %v", a, x)
		}
	}
	for _, b := range words()[1:] {
		if x := pair(DivDown(0, b)); x != (answer{0, true}) {
			t.Errorf("DivDown(0, %d): %v", b, x)
		}
		if x := pair(DivUp(0, b)); x != (answer{0, true}) {
			t.Errorf("DivUp(0, %d): %v", b, x)
		}
	}
}

// both: a product or a quotient, rounded down and up.
type both struct{ down, up answer }

func mul(a, b uint64) both { return both{pair(MulDown(a, b)), pair(MulUp(a, b))} }

func div(a, b uint64) both { return both{pair(DivDown(a, b)), pair(DivUp(a, b))} }

func exactly(n uint64) both { return both{answer{n, true}, answer{n, true}} }

func tooGreat() both { return both{answer{m, false}, answer{m, false}} }

// A product of q^3 - q comes to just m, one of q^3 to m + 1; what lies between fits just if it is rounded down.
func TestP43MulEdges(t *testing.T) {
	fitsDown := both{answer{m, true}, answer{m, false}}
	for _, k := range []struct {
		call      string
		got, want both
	}{
		{"0 * m", mul(0, m), exactly(0)},
		{"1 * 1", mul(1, 1), both{answer{0, true}, answer{1, true}}},
		{"q * q", mul(q, q), exactly(q)},
		{"1 * (q - 1)", mul(1, q-1), both{answer{0, true}, answer{1, true}}},
		{"1 * q", mul(1, q), exactly(1)},
		{"1 * (q + 1)", mul(1, q+1), both{answer{1, true}, answer{2, true}}},
		{"1 * m", mul(1, m), both{answer{q - 1, true}, answer{q, true}}},
		{"q^3 - q, of q and m", mul(q, m), exactly(m)},
		{"q^3 - q, of m and q", mul(m, q), exactly(m)},
		{"q^3 - q, of q + 1 and q * q - q", mul(q+1, m-q+1), exactly(m)},
		{"q^3 - q + 6, of q + 2 and q * q - 2 * q + 3", mul(q+2, m-2*q+4), fitsDown},
		{"q^3 - q + 24, of q + 3 and q * q - 3 * q + 8", mul(q+3, m-3*q+9), fitsDown},
		{"q^3 - 1", mul(3*(q-65536+1), (q-1)*((q+65536+1)/3)), fitsDown},
		{"q^3", mul(q<<16, q<<16), tooGreat()},
		{"q^3 + 1, of q + 1 and q * q - q + 1", mul(q+1, m-q+2), tooGreat()},
		{"m * (q + 1)", mul(m, q+1), tooGreat()},
		{"m * m", mul(m, m), tooGreat()},
	} {
		if k.got != k.want {
			t.Errorf("%s: %v, not %v", k.call, k.got, k.want)
		}
	}
}

// A quotient between m and m + 1 would need an a of more than 64 bits: each one fits both ways or neither.
func TestP43DivEdges(t *testing.T) {
	for _, k := range []struct {
		call      string
		got, want both
	}{
		{"q / q", div(q, q), exactly(q)},
		{"7 / q", div(7, q), exactly(7)},
		{"1 / m", div(1, m), both{answer{0, true}, answer{1, true}}},
		{"1 / 3", div(1, 3), both{answer{q / 3, true}, answer{q/3 + 1, true}}},
		{"m / m", div(m, m), exactly(q)},
		{"m / (m - 1)", div(m, m-1), both{answer{q, true}, answer{q + 1, true}}},
		{"(m - 1) / m", div(m-1, m), both{answer{q - 1, true}, answer{q, true}}},
		{"(q - 1) / 1", div(q-1, 1), exactly(m - q + 1)},
		{"q / 1", div(q, 1), tooGreat()},
		{"m / q", div(m, q), exactly(m)},
		{"m / (q - 1)", div(m, q-1), tooGreat()},
		{"m / (q + 1)", div(m, q+1), exactly(m - q + 1)},
		{"(m - 1) / (q + 1)", div(m-1, q+1), both{answer{m - q, true}, answer{m - q + 1, true}}},
		{"(m - q) / (q - 1)", div(m-q, q-1), both{answer{m - 1, true}, answer{m, true}}},
		{"(m - q + 1) / (q - 1)", div(m-q+1, q-1), tooGreat()},
		{"m / 1", div(m, 1), tooGreat()},
		{"m / 0", div(m, 0), tooGreat()},
		{"0 / 0", div(0, 0), tooGreat()},
	} {
		if k.got != k.want {
			t.Errorf("%s: %v, not %v", k.call, k.got, k.want)
		}
	}
}

func TestP44Part(t *testing.T) {
	for _, a := range words() {
		for _, f := range words() {
			want := a
			if f <= api.One {
				down, _, _ := ratio(a, f, api.One)
				want = down.Uint64()
			}
			if x := Part(a, f); x != want {
				t.Errorf("Part(%d, %d): %d, not %d", a, f, x, want)
			}
		}
	}
}

func TestP44PartEdges(t *testing.T) {
	for _, k := range []struct{ a, fraction, want uint64 }{
		{m, api.One - 1, m - 2}, {m, api.One, m}, {m, api.One + 1, m}, {m, m, m},
		{api.One, api.One - 1, api.One - 1}, {api.One, 1, 1}, {api.One - 1, 1, 0}, {m, 1, 1}, {m, 2, 3},
		{1, api.One - 1, 0}, {1, api.One, 1}, {1, api.One + 1, 1}, {1, m, 1},
		{0, api.One - 1, 0}, {0, api.One, 0}, {0, api.One + 1, 0}, {0, 0, 0}, {1, 0, 0},
		{8, api.One / 8 * 3, 3}, {7, api.One / 8 * 3, 2},
	} {
		if x := Part(k.a, k.fraction); x != k.want {
			t.Errorf("Part(%d, %d): %d, not %d", k.a, k.fraction, x, k.want)
		}
	}
}

// upIsNext tells whether a number that was rounded up is as P4.5 has it beside the one that was rounded down.
func upIsNext(x both, exact bool) bool {
	switch {
	case !x.down.fits:
		return x == tooGreat()
	case exact:
		return x.up == x.down
	case x.down.number == m:
		return x.up == answer{m, false}
	}
	return x.up == answer{x.down.number + 1, true}
}

func TestP45UpIsDownOrOneMore(t *testing.T) {
	for _, a := range words() {
		for _, b := range words() {
			_, _, exact := ratio(a, b, q)
			if x := mul(a, b); !upIsNext(x, exact) {
				t.Errorf("%d * %d: %v, exact %v", a, b, x, exact)
			}
			_, _, exact = ratio(a, q, b)
			if x := div(a, b); !upIsNext(x, exact) {
				t.Errorf("%d / %d: %v, exact %v", a, b, x, exact)
			}
		}
	}
}

// notBelow: of two that do not fit, or of which one does not, the numbers alone tell.
func notBelow(x, y answer) bool { return x.number >= y.number }

func TestP45RisesWithA(t *testing.T) {
	l := words()
	calls := []struct {
		name string
		call func(a, b uint64) (uint64, bool)
	}{
		{"Add", Add}, {"Sub", Sub}, {"MulDown", MulDown}, {"MulUp", MulUp}, {"DivDown", DivDown}, {"DivUp", DivUp},
		{"Part", func(a, f uint64) (uint64, bool) { return Part(a, f), true }},
		{"Floor", func(a, _ uint64) (uint64, bool) { return uint64(Floor(a)), true }},
	}
	for _, k := range calls {
		for _, b := range l {
			for i := range len(l) - 1 {
				if x, y := pair(k.call(l[i], b)), pair(k.call(l[i+1], b)); !notBelow(y, x) {
					t.Errorf("%s(%d, %d) is %v, but %s(%d, %d) %v", k.name, l[i], b, x, k.name, l[i+1], b, y)
				}
			}
		}
	}
}

func TestP45OfRises(t *testing.T) {
	l := []int{math.MinInt, -q, -1, 0, 1, 2, 1 << 31, q - 2, q - 1, q, q + 1, math.MaxInt}
	for i := range len(l) - 1 {
		if x, y := pair(Of(l[i])), pair(Of(l[i+1])); !notBelow(y, x) {
			t.Errorf("Of(%d) is %v, but Of(%d) %v", l[i], x, l[i+1], y)
		}
	}
}

func TestP45RisesOrFallsWithB(t *testing.T) {
	l := words()
	calls := []struct {
		name  string
		call  func(a, b uint64) (uint64, bool)
		falls bool
	}{
		{"Add", Add, false}, {"MulDown", MulDown, false}, {"MulUp", MulUp, false},
		{"Part", func(a, f uint64) (uint64, bool) { return Part(a, f), true }, false},
		{"Sub", Sub, true}, {"DivDown", DivDown, true}, {"DivUp", DivUp, true},
	}
	for _, k := range calls {
		for _, a := range l {
			for i := range len(l) - 1 {
				x, y := pair(k.call(a, l[i])), pair(k.call(a, l[i+1]))
				if k.falls {
					x, y = y, x
				}
				if !notBelow(y, x) {
					t.Errorf("%s(%d, ..) from %d to %d: %v, %v (falls: %v)", k.name, a, l[i], l[i+1], x, y, k.falls)
				}
			}
		}
	}
}

func TestP45PartOfTheWhole(t *testing.T) {
	for _, a := range words() {
		if x := Part(a, api.One); x != a {
			t.Errorf("Part(%d, One): %d", a, x)
		}
		for _, f := range words() {
			if x := Part(a, f); x > a {
				t.Errorf("Part(%d, %d): %d", a, f, x)
			}
		}
	}
}

func TestExamplesOfPairs(t *testing.T) {
	for _, k := range []struct {
		call      string
		got, want answer
	}{
		{"Of(3)", pair(Of(3)), answer{3 * q, true}},
		{"Of(-1)", pair(Of(-1)), answer{0, false}},
		{"Of(2^32)", pair(Of(1 << 32)), answer{m, false}},
		{"Add(m, 1)", pair(Add(m, 1)), answer{m, false}},
		{"Sub(1, 2)", pair(Sub(1, 2)), answer{0, false}},
		{"Sub(2, 1)", pair(Sub(2, 1)), answer{1, true}},
		{"MulDown(q / 2, 3)", pair(MulDown(q/2, 3)), answer{1, true}},
		{"MulUp(q / 2, 3)", pair(MulUp(q/2, 3)), answer{2, true}},
		{"MulDown(q, 7)", pair(MulDown(q, 7)), answer{7, true}},
		{"MulUp(m, m)", pair(MulUp(m, m)), answer{m, false}},
		{"DivDown(q, 3 * q)", pair(DivDown(q, 3*q)), answer{1431655765, true}},
		{"DivUp(q, 3 * q)", pair(DivUp(q, 3*q)), answer{1431655766, true}},
		{"DivDown(0, 0)", pair(DivDown(0, 0)), answer{m, false}},
		{"DivUp(m, 1)", pair(DivUp(m, 1)), answer{m, false}},
	} {
		if k.got != k.want {
			t.Errorf("%s: %v, not %v", k.call, k.got, k.want)
		}
	}
}

func TestExamplesOfNumbers(t *testing.T) {
	for _, k := range []struct {
		call      string
		got, want uint64
	}{
		{"Floor(3 * q + 5)", uint64(Floor(3*q + 5)), 3},
		{"Part(7, One / 2)", Part(7, api.One/2), 3},
		{"Part(7, One)", Part(7, api.One), 7},
		{"Part(7, One + 1)", Part(7, api.One+1), 7},
		{"Part(m, 0)", Part(m, 0), 0},
	} {
		if k.got != k.want {
			t.Errorf("%s: %d, not %d", k.call, k.got, k.want)
		}
	}
}
