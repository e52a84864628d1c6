package ladder

import (
	"math"
	"math/big"
	"math/bits"
	"slices"
	"testing"

	"backfill/api"
	"backfill/wide"
)

const (
	q   = api.QOne
	one = uint64(api.One)
	m   = math.MaxUint64
)

// The tests hold the package against math/big, by the chapter's definitions alone: no table, no word of 64 bits.

func bigOf(n uint64) *big.Int { return new(big.Int).SetUint64(n) }

func power(n uint) *big.Int { return new(big.Int).Lsh(big.NewInt(1), n) }

func square(n *big.Int) *big.Int { return new(big.Int).Mul(n, n) }

// rungsByRoots are the Rungs from 1 to 32, each at its own number; at 0 there is none.
func rungsByRoots() []*big.Int {
	l := []*big.Int{nil, new(big.Int).Sqrt(power(127))}
	for i := 2; i <= 32; i++ {
		l = append(l, new(big.Int).Sqrt(new(big.Int).Lsh(l[i-1], 64)))
	}
	return l
}

// halfBySteps goes through P7.2 word by word.
func halfBySteps(e uint64, rungs []*big.Int) *big.Int {
	n, f := new(big.Int).QuoRem(bigOf(e), power(32), new(big.Int))
	if n.Cmp(big.NewInt(63)) >= 0 {
		return new(big.Int)
	}
	t := power(63)
	for i := 1; i <= 32; i++ {
		if f.Bit(32-i) == 1 {
			t.Quo(t.Mul(t, rungs[i]), power(64))
		}
	}
	return t.Quo(t, power(uint(n.Int64())))
}

const precision = 400

// realRoots are 2^-(2^-i), for i from 1 to 32, so near that no test can tell: they are off by less than 2^-390.
func realRoots() []*big.Float {
	l := []*big.Float{new(big.Float).SetPrec(precision).SetMantExp(big.NewFloat(1), -1)}
	for i := 1; i <= 32; i++ {
		l = append(l, new(big.Float).SetPrec(precision).Sqrt(l[i-1]))
	}
	return l
}

// realHalf is 2^63 * 2^-(e / 2^32); true: there is no bit behind the point, so that it is just this.
func realHalf(e uint64, roots []*big.Float) (*big.Float, bool) {
	x := new(big.Float).SetPrec(precision).SetInt64(1)
	for i := 1; i <= 32; i++ {
		if e>>(32-i)&1 == 1 {
			x.Mul(x, roots[i])
		}
	}
	return x.SetMantExp(x, 63-int(e>>32)), e<<32 == 0
}

// mixed goes through numbers without an order, always the same ones.
func mixed(seed uint64) uint64 {
	seed += 0x9e3779b97f4a7c15
	seed = (seed ^ seed>>30) * 0xbf58476d1ce4e5b9
	seed = (seed ^ seed>>27) * 0x94d049bb133111eb
	return seed ^ seed>>31
}

// behinds are what may stand behind the point: nothing, each bit, each two, the upper ones, the lower ones, all, and drawn ones.
func behinds() []uint64 {
	l := []uint64{0, q - 1, q - 2, 0x55555555, 0xaaaaaaaa, 0x00ff00ff, 0x80000001}
	for i := range uint64(32) {
		l = append(l, 1<<i, 1<<i-1, q-1<<i, q-1-1<<i)
		for j := range i {
			l = append(l, 1<<i|1<<j)
		}
		l = append(l, mixed(i)%q, mixed(100+i)%q, mixed(200+i)%q)
	}
	return l
}

// words rise, so that neighbours show whether a Half falls.
func words() []uint64 {
	l := []uint64{0, 1, 2, 3, 5, m - 2, m - 1, m}
	for i := range uint64(64) {
		l = append(l, 1<<i-1, 1<<i, 1<<i+1, m-1<<i, mixed(i), mixed(i)>>i, mixed(1000+i)%(64*q))
	}
	for n := range uint64(67) {
		at := n * q
		l = append(l, at-1, at, at+1, at+2, at+q/2-1, at+q/2, at+q/2+1, at+q-2, at+q-1)
		l = append(l, at+mixed(300+n)%q, at+mixed(400+n)%q, at+mixed(500+n)%q)
	}
	for _, n := range []uint64{0, 1, 2, 31, 32, 61, 62, 63, 1 << 31} {
		for _, f := range behinds() {
			l = append(l, n*q+f)
		}
	}
	slices.Sort(l)
	return slices.Compact(l)
}

func TestP71RungIsTheGreatest(t *testing.T) {
	at := power(127)
	for i := 1; i <= 32; i++ {
		r := bigOf(Rung(i))
		next := new(big.Int).Add(r, big.NewInt(1))
		if square(r).Cmp(at) > 0 || square(next).Cmp(at) <= 0 {
			t.Errorf("Rung(%d): %v is not the greatest number whose square is at most %v", i, r, at)
		}
		at = new(big.Int).Lsh(r, 64)
	}
}

func TestP71RungIsARootOfWide(t *testing.T) {
	at := wide.Num{Hi: 1 << 63}
	for i := 1; i <= 32; i++ {
		if r := wide.Sqrt(at); Rung(i) != r {
			t.Errorf("Rung(%d): %d, not %d", i, Rung(i), r)
		}
		at = wide.Num{Hi: Rung(i)}
	}
}

func TestP71RungOfOthers(t *testing.T) {
	for _, i := range []int{0, 33, 34, 63, 64, 65, 127, 128, 129, 256, 257, 1 << 16, 1<<16 + 1, 1 << 31, 1<<32 + 1, 1<<32 + 32, 1 << 62, math.MaxInt - 1, math.MaxInt} {
		if r := Rung(i); r != 0 {
			t.Errorf("Rung(%d): %d", i, r)
		}
		if r := Rung(-i); r != 0 {
			t.Errorf("Rung(%d): %d", -i, r)
		}
	}
	for _, i := range []int{-1, -2, -32, math.MinInt + 1, math.MinInt, math.MinInt + 32, -1<<32 + 1} {
		if r := Rung(i); r != 0 {
			t.Errorf("Rung(%d): %d", i, r)
		}
	}
}

func TestP71RungIsHardlyLess(t *testing.T) {
	roots := realRoots()
	for i := 1; i <= 32; i++ {
		r := new(big.Float).SetPrec(precision).SetUint64(Rung(i))
		less := new(big.Float).Sub(new(big.Float).SetMantExp(roots[i], 64), r)
		if less.Sign() < 0 || less.Cmp(big.NewFloat(3)) >= 0 {
			t.Errorf("Rung(%d): %v is too low by %v", i, r, less)
		}
	}
}

func TestP72Half(t *testing.T) {
	rungs := rungsByRoots()
	for _, e := range words() {
		if h, want := Half(e), halfBySteps(e, rungs); bigOf(h).Cmp(want) != 0 {
			t.Errorf("Half(%d): %d, not %v", e, h, want)
		}
	}
}

func TestP72HalfOfDrawn(t *testing.T) {
	rungs := rungsByRoots()
	for i := range uint64(20000) {
		e := mixed(i) % (63 * q)
		if h, want := Half(e), halfBySteps(e, rungs); bigOf(h).Cmp(want) != 0 {
			t.Errorf("Half(%d): %d, not %v", e, h, want)
		}
	}
}

func TestP72HalfFromSixtyThreeOn(t *testing.T) {
	for _, e := range []uint64{63 * q, 63*q + 1, 63*q + q/2, 64*q - 1, 64 * q, 64*q + 1, 65 * q, 127 * q, 128 * q, 128*q + 1, 256 * q, 1 << 62, 1<<63 - 1, 1 << 63, 1<<63 + 1, m - q, m - 1, m} {
		if h := Half(e); h != 0 {
			t.Errorf("Half(%d): %d", e, h)
		}
	}
	// Just below, it is 2^63 * 2^-62.99.., which is above 1 and below 2.
	if h := Half(63*q - 1); h != 1 {
		t.Errorf("Half(%d): %d", uint64(63*q-1), h)
	}
}

func TestP72OneBitIsOneRung(t *testing.T) {
	for i := 1; i <= 32; i++ {
		// 2^63 times a Rung by 2^64 is half of the Rung.
		if h := Half(1 << (32 - i)); h != Rung(i)/2 {
			t.Errorf("Half(2^%d): %d, not half of %d", 32-i, h, Rung(i))
		}
	}
}

func TestP72WholePartDividesLast(t *testing.T) {
	for _, f := range behinds() {
		for n := range uint64(63) {
			if h := Half(n*q + f); h != Half(f)>>n {
				t.Errorf("Half(%d * 2^32 + %d): %d, not %d", n, f, h, Half(f)>>n)
			}
		}
	}
}

func TestP73Bounds(t *testing.T) {
	for _, e := range words() {
		low, high := Bounds(e)
		want := new(big.Int).Add(bigOf(Half(e)), big.NewInt(81))
		if want.Cmp(power(63)) > 0 {
			want = power(63)
		}
		if low != Half(e) || bigOf(high).Cmp(want) != 0 {
			t.Errorf("Bounds(%d): %d and %d, not %d and %v", e, low, high, Half(e), want)
		}
	}
}

func TestP73SecondBoundIsAtMostOne(t *testing.T) {
	if low, high := Bounds(0); low != one || high != one {
		t.Errorf("Bounds(0): %d and %d", low, high)
	}
	// A Half next to 2^63 is less by far more than 81, so that there is room.
	low, high := Bounds(1)
	if low >= one-81 || high != low+81 {
		t.Errorf("Bounds(1): %d and %d", low, high)
	}
	for _, e := range words() {
		if low, high := Bounds(e); low > high || high > one {
			t.Errorf("Bounds(%d): %d and %d", e, low, high)
		}
	}
}

func TestP73RealNumberIsBetween(t *testing.T) {
	roots := realRoots()
	near := new(big.Float).SetMantExp(big.NewFloat(1), -200)
	for _, e := range words() {
		low, high := Bounds(e)
		if e >= 64*q {
			// It is above 0 and at most a half.
			if low != 0 || high < 1 {
				t.Errorf("Bounds(%d): %d and %d", e, low, high)
			}
			continue
		}
		x, exact := realHalf(e, roots)
		above := new(big.Float).SetPrec(precision).Sub(x, new(big.Float).SetUint64(low))
		below := new(big.Float).SetPrec(precision).Sub(new(big.Float).SetUint64(high), x)
		if above.Sign() < 0 || below.Sign() < 0 {
			t.Errorf("Bounds(%d): %d and %d, but it is %v", e, low, high, x)
		}
		if !exact && (above.Cmp(near) < 0 || below.Cmp(near) < 0) {
			t.Errorf("%d is too near to a bound to tell", e)
		}
	}
}

func TestP74Falls(t *testing.T) {
	l := words()
	for i := range len(l) - 1 {
		if Half(l[i]) < Half(l[i+1]) {
			t.Errorf("Half rises from %d to %d: from %d to %d", l[i], l[i+1], Half(l[i]), Half(l[i+1]))
		}
	}
	for i := range uint64(20000) {
		e := mixed(i) % (63 * q)
		if Half(e) < Half(e+1) {
			t.Errorf("Half rises at %d: from %d to %d", e, Half(e), Half(e+1))
		}
	}
}

func TestP74FallsFromBitToBit(t *testing.T) {
	// Where a bit is set all lower ones go: the steps are the most unlike there.
	for n := range uint64(64) {
		for i := range 32 {
			for k := range uint64(8) {
				e := n*q + mixed(k)%q>>(i+1)<<(i+1) + 1<<i
				if Half(e-1) < Half(e) || Half(e) < Half(e+1) {
					t.Errorf("Half about %d: %d %d %d", e, Half(e-1), Half(e), Half(e+1))
				}
			}
		}
	}
}

func TestP74WholePowers(t *testing.T) {
	if Half(0) != one {
		t.Errorf("Half(0): %d", Half(0))
	}
	for n := range uint64(63) {
		if h := Half(n * q); h != one>>n || bits.OnesCount64(h) != 1 {
			t.Errorf("Half(%d * 2^32): %d", n, h)
		}
		if h := Half(n*q + 1); h >= one>>n {
			t.Errorf("Half(%d * 2^32 + 1): %d", n, h)
		}
		if h := Half(n*q + q - 1); n < 62 && h < one>>(n+1) {
			t.Errorf("Half(%d * 2^32 + 2^32 - 1): %d", n, h)
		}
	}
}

// twice tells whether P7.5 holds of e.
func twice(e uint64) bool {
	low, high := Bounds(e)
	low2, high2 := Bounds(2 * e)
	notAbove := square(bigOf(low)).Cmp(new(big.Int).Mul(bigOf(one), bigOf(high2))) <= 0
	notBelow := square(bigOf(high)).Cmp(new(big.Int).Mul(bigOf(one), bigOf(low2))) >= 0
	return notAbove && notBelow
}

func TestP75Twice(t *testing.T) {
	for _, e := range words() {
		if e < 1<<63 && !twice(e) {
			t.Errorf("P7.5 does not hold of %d", e)
		}
	}
	for i := range uint64(20000) {
		if e := mixed(i) % (32 * q); !twice(e) {
			t.Errorf("P7.5 does not hold of %d", e)
		}
	}
}

func TestP75TwiceAtTheEdges(t *testing.T) {
	// The first one's second bound is One; of those next to 63 / 2 the double has no Half any more; the last one is the greatest there is.
	for _, e := range []uint64{0, 31*q + q/2 - 1, 31*q + q/2, 31*q + q/2 + 1, 32*q - 1, 32 * q, 63*q - 1, 63 * q, 1 << 62, 1<<63 - 1} {
		if !twice(e) {
			t.Errorf("P7.5 does not hold of %d", e)
		}
	}
}

func TestR5OneAnswer(t *testing.T) {
	l := words()
	var first []uint64
	for _, e := range l {
		first = append(first, Half(e))
	}
	for i := len(l) - 1; i >= 0; i-- {
		Rung(i)
		low, _ := Bounds(l[i])
		if Half(l[i]) != first[i] || low != first[i] {
			t.Errorf("Half(%d): %d, then %d and %d", l[i], first[i], Half(l[i]), low)
		}
	}
}

func TestExamples(t *testing.T) {
	for _, k := range []struct {
		i    int
		want uint64
	}{{1, 13043817825332782212}, {2, 15511800964685064948}, {32, 18446744070732507144}, {0, 0}, {33, 0}} {
		if r := Rung(k.i); r != k.want {
			t.Errorf("Rung(%d): %d, not %d", k.i, r, k.want)
		}
	}
	for _, k := range []struct{ e, want uint64 }{{0, 1 << 63}, {1 << 32, 1 << 62}, {62 << 32, 2}, {63 << 32, 0}, {m, 0}, {1 << 31, 6521908912666391106}} {
		if h := Half(k.e); h != k.want {
			t.Errorf("Half(%d): %d, not %d", k.e, h, k.want)
		}
	}
	for _, k := range []struct{ e, low, high uint64 }{{0, 1 << 63, 1 << 63}, {m, 0, 81}} {
		if low, high := Bounds(k.e); low != k.low || high != k.high {
			t.Errorf("Bounds(%d): %d and %d, not %d and %d", k.e, low, high, k.low, k.high)
		}
	}
}
