package decay

import (
	"math"
	"math/big"
	"slices"
	"testing"

	"backfill/api"
	"backfill/fixq"
	"backfill/ladder"
)

const (
	q   = api.QOne
	one = uint64(api.One)
	m   = math.MaxUint64
)

// The tests hold the package against math/big, by the chapter's words: no edge at 64 bits, no period left out.

func bigOf(n uint64) *big.Int { return new(big.Int).SetUint64(n) }

// halvings is period * 2^32 / half, rounded down.
func halvings(period, half int) *big.Int {
	e := new(big.Int).Lsh(big.NewInt(int64(period)), 32)
	return e.Quo(e, big.NewInt(int64(half)))
}

func wantFactor(period, half int) (uint64, api.Errno) {
	if period <= 0 || period > 1<<20 || half <= 0 || half > 1<<30 {
		return 0, api.ErrDecayArg
	}
	return ladder.Half(halvings(period, half).Uint64()), api.OK
}

func wantCharge(u uint64, nodes int) uint64 {
	if nodes < 0 {
		return u
	}
	sum := new(big.Int).Lsh(big.NewInt(int64(nodes)), 32)
	if sum.Add(sum, bigOf(u)); !sum.IsUint64() {
		return m
	}
	return sum.Uint64()
}

func wantFade(u, factor uint64) uint64 {
	if factor > one {
		return u
	}
	product := new(big.Int).Mul(bigOf(u), bigOf(factor))
	return product.Rsh(product, 63).Uint64()
}

// wantFades goes through every period, also those that change nothing.
func wantFades(u, factor uint64, periods int) uint64 {
	for range max(0, min(periods, 65536)) {
		u = wantFade(u, factor)
	}
	return u
}

// mixed goes through numbers without an order, always the same ones.
func mixed(seed uint64) uint64 {
	seed += 0x9e3779b97f4a7c15
	seed = (seed ^ seed>>30) * 0xbf58476d1ce4e5b9
	seed = (seed ^ seed>>27) * 0x94d049bb133111eb
	return seed ^ seed>>31
}

// arguments of Factor: its limits, what is beside them, and what only its lower bits would make right.
func arguments() []int {
	return []int{
		math.MinInt, math.MinInt + 1, -1 << 62, -1 << 32, -api.MaxHalf, -api.MaxPeriod, -2, -1, 0, 1, 2, 3, 5, 7, 62, 63, 64, 65, 100, 1000, 16644,
		api.MaxPeriod - 1, api.MaxPeriod, api.MaxPeriod + 1, api.MaxHalf - 1, api.MaxHalf, api.MaxHalf + 1,
		1 << 31, 1<<32 - 1, 1 << 32, 1<<32 + 1, 1<<32 + 100, 1 << 62, math.MaxInt - 1, math.MaxInt,
	}
}

// factors rise: the edges of a fraction, the ones beyond it, those of real periods, and drawn ones.
func factors() []uint64 {
	l := []uint64{0, 1, 2, 3, q - 1, q, q + 1, one / 3, one/2 - 1, one / 2, one/2 + 1, one - q, one - 2, one - 1, one, one + 1, one + q, m - 1, m}
	for _, k := range [][2]int{{1, api.MaxHalf}, {1, 3}, {1, 1}, {100, 7}, {api.MaxPeriod, api.MaxHalf}} {
		f, _ := Factor(k[0], k[1])
		l = append(l, f)
	}
	for i := range uint64(24) {
		l = append(l, mixed(i)>>(i%8), one-mixed(100+i)>>(8+i))
	}
	slices.Sort(l)
	return slices.Compact(l)
}

// usages rise.
func usages() []uint64 {
	l := []uint64{0, 1, 2, 3, 5, 7, 8, q - 1, q, q + 1, 3 * q, 3*q + 5, one - 1, one, one + 1, m - q, m - q + 1, m - 2, m - 1, m}
	for i := range uint64(64) {
		l = append(l, 1<<i, mixed(500+i)>>i)
	}
	slices.Sort(l)
	return slices.Compact(l)
}

func checkFactor(t *testing.T, period, half int) {
	t.Helper()
	f, e := Factor(period, half)
	if want, wantE := wantFactor(period, half); f != want || e != wantE {
		t.Errorf("Factor(%d, %d): %d %d, not %d %d", period, half, f, e, want, wantE)
	}
	if f >= one {
		t.Errorf("Factor(%d, %d): %d is not below One", period, half, f)
	}
}

func TestP101FactorEachWithEach(t *testing.T) {
	for _, period := range arguments() {
		for _, half := range arguments() {
			checkFactor(t, period, half)
		}
	}
}

func TestP101FactorRefuses(t *testing.T) {
	for _, k := range [][2]int{
		{0, 1}, {1, 0}, {0, 0}, {-1, 1}, {1, -1}, {-1, -1}, {math.MinInt, 100}, {100, math.MinInt}, {math.MaxInt, 100}, {100, math.MaxInt},
		{api.MaxPeriod + 1, 1}, {api.MaxPeriod + 1, api.MaxHalf}, {1, api.MaxHalf + 1}, {api.MaxPeriod, api.MaxHalf + 1}, {api.MaxHalf, api.MaxHalf},
		{math.MinInt, math.MinInt}, {math.MaxInt, math.MaxInt}, {math.MinInt, math.MaxInt}, {0, math.MaxInt},
	} {
		if f, e := Factor(k[0], k[1]); f != 0 || e != api.ErrDecayArg {
			t.Errorf("Factor(%d, %d): %d %d", k[0], k[1], f, e)
		}
	}
}

func TestP101FactorOfTheLimits(t *testing.T) {
	for _, k := range []struct {
		period, half int
		want         uint64
	}{
		{1, 1, 1 << 62},
		{api.MaxPeriod, 1, 0},
		{1, api.MaxHalf, ladder.Half(4)},
		{api.MaxPeriod, api.MaxHalf, ladder.Half(1 << 22)},
		{api.MaxPeriod, api.MaxPeriod, 1 << 62},
	} {
		if f, e := Factor(k.period, k.half); f != k.want || e != api.OK {
			t.Errorf("Factor(%d, %d): %d %d, not %d", k.period, k.half, f, e, k.want)
		}
	}
}

func TestP101FactorAboutSixtyThreeHalvings(t *testing.T) {
	for _, half := range []int{1, 2, 3, 7, 100, 1000, 16383, 16384, api.MaxPeriod / 64, api.MaxPeriod / 63} {
		for _, n := range []int{61, 62, 63, 64} {
			for _, period := range []int{n*half - 1, n * half, n*half + 1} {
				checkFactor(t, period, half)
			}
		}
		f62, _ := Factor(62*half, half)
		f63, e63 := Factor(63*half, half)
		if f62 != 2 || f63 != 0 || e63 != api.OK {
			t.Errorf("62 and 63 halvings of %d: %d and %d, %d", half, f62, f63, e63)
		}
		if below, e := Factor(63*half-1, half); half > 1 && (below != 1 || e != api.OK) {
			t.Errorf("just below 63 halvings of %d: %d %d", half, below, e)
		}
		if above, e := Factor(63*half+1, half); above != 0 || e != api.OK {
			t.Errorf("just above 63 halvings of %d: %d %d", half, above, e)
		}
	}
	if f, e := Factor(api.MaxPeriod, api.MaxPeriod/64); f != 0 || e != api.OK {
		t.Errorf("64 halvings: %d %d", f, e)
	}
}

func TestP101FactorRoundsHalvingsDown(t *testing.T) {
	lost := 0
	for i := range 4000 {
		period, half := 1+int(mixed(uint64(i))%api.MaxPeriod), 1+int(mixed(9000+uint64(i))%api.MaxHalf)
		if i%2 == 0 {
			half = 1 + half%(64*period)
		}
		checkFactor(t, period, half)
		e := halvings(period, half).Uint64()
		if e*uint64(half) == uint64(period)<<32 {
			continue
		}
		// One more, as if it were rounded up, is another factor.
		if f, _ := Factor(period, half); e < 30*q && f != ladder.Half(e+1) {
			lost++
		}
	}
	if lost < 1000 {
		t.Errorf("only %d of these tell down from up", lost)
	}
	for _, k := range []struct {
		period, half int
		e            uint64
	}{{1, 3, 1431655765}, {2, 3, 2863311530}, {10, 3, 14316557653}, {1, api.MaxHalf - 1, 4}, {2, api.MaxHalf - 1, 8}, {1, 858993460, 4}, {1, 858993459, 5}} {
		if f, e := Factor(k.period, k.half); f != ladder.Half(k.e) || e != api.OK {
			t.Errorf("Factor(%d, %d): %d %d, not the Half of %d", k.period, k.half, f, e, k.e)
		}
	}
}

func TestP101FactorIsBelowOne(t *testing.T) {
	// The slowest fading there is: four units of halvings.
	f, e := Factor(1, api.MaxHalf)
	if f != ladder.Half(4) || f >= one || e != api.OK {
		t.Errorf("Factor(1, MaxHalf): %d %d", f, e)
	}
	for i := range 2000 {
		if f, e := Factor(1, api.MaxHalf-i*i); f >= one || e != api.OK {
			t.Errorf("Factor(1, %d): %d %d", api.MaxHalf-i*i, f, e)
		}
	}
}

// counts of nodes: the edges of Charge.
func counts() []int {
	return []int{
		math.MinInt, math.MinInt + 1, -1 << 62, -q - 1, -q, -q + 1, -2, -1, 0, 1, 2, 3, 256, 256 << 20, 1<<31 - 1, 1 << 31,
		q - 2, q - 1, q, q + 1, q + 3, 2 * q, q << 16, 1 << 62, math.MaxInt - 1, math.MaxInt,
	}
}

func TestP102Charge(t *testing.T) {
	for _, nodes := range counts() {
		l := usages()
		if nodes > 0 && nodes < q {
			// The greatest usage that leaves room for them, and its neighbours.
			room := m - uint64(nodes)*q
			l = append(l, room-1, room, room+1, room+2)
		}
		for _, u := range l {
			if x, want := Charge(u, nodes), wantCharge(u, nodes); x != want {
				t.Errorf("Charge(%d, %d): %d, not %d", u, nodes, x, want)
			}
		}
	}
}

func TestP102ChargeJustFits(t *testing.T) {
	for _, k := range []struct {
		u     uint64
		nodes int
		want  uint64
	}{
		{0, q - 1, m - q + 1},
		{q - 2, q - 1, m - 1},
		{q - 1, q - 1, m},
		{q, q - 1, m},
		{m - q, 1, m},
		{m - q - 1, 1, m - 1},
		{m - q + 1, 1, m},
		{m - q, 2, m},
		{0, q, m},
		{1, q, m},
		{5, q + 3, m},
		{5, math.MaxInt, m},
		{m, 0, m},
		{m, 1, m},
		{m, -1, m},
		{m, math.MinInt, m},
		{0, 0, 0},
		{1, 0, 1},
		{0, -1, 0},
		{1, -1, 1},
		{7, math.MinInt, 7},
	} {
		if x := Charge(k.u, k.nodes); x != k.want {
			t.Errorf("Charge(%d, %d): %d, not %d", k.u, k.nodes, x, k.want)
		}
	}
}

func TestP103Fade(t *testing.T) {
	for _, f := range factors() {
		for _, u := range usages() {
			if x, want := Fade(u, f), wantFade(u, f); x != want || x != fixq.Part(u, f) {
				t.Errorf("Fade(%d, %d): %d, not %d", u, f, x, want)
			}
		}
	}
}

func TestP103FadeAtTheEdges(t *testing.T) {
	for _, k := range []struct{ u, factor, want uint64 }{
		{0, 0, 0}, {0, one, 0}, {0, m, 0}, {m, 0, 0}, {1, 0, 0},
		{1, one - 1, 0}, {1, one, 1}, {1, one + 1, 1}, {m, one - 1, m - 2}, {m, one, m}, {m, one + 1, m}, {m, m, m},
		{m, 1, 1}, {one, 1, 1}, {one - 1, 1, 0}, {q, q, 2}, {q, one - 1, q - 1}, {q, one, q}, {m, q, 1<<33 - 1},
	} {
		if x := Fade(k.u, k.factor); x != k.want {
			t.Errorf("Fade(%d, %d): %d, not %d", k.u, k.factor, x, k.want)
		}
	}
}

func TestP104Fades(t *testing.T) {
	for _, periods := range []int{math.MinInt, math.MinInt + 1, -1 << 32, -2, -1, 0, 1, 2, 3, 10, 63, 64, 65, 300} {
		for _, f := range factors() {
			for _, u := range usages() {
				if x, want := Fades(u, f, periods), wantFades(u, f, periods); x != want {
					t.Fatalf("Fades(%d, %d, %d): %d, not %d", u, f, periods, x, want)
				}
			}
		}
	}
}

// slow are factors that leave something of a great usage behind 65536 periods and more.
func slow() []uint64 {
	l := []uint64{one - 1, one - 2, one - q, one - one>>16, one - one>>20}
	for _, k := range [][2]int{{1, api.MaxHalf}, {2, api.MaxHalf - 1}, {1, 1 << 16}, {1, 1 << 12}, {api.MaxPeriod / 4, api.MaxHalf}} {
		f, _ := Factor(k[0], k[1])
		l = append(l, f)
	}
	return l
}

func TestP104FadesOfManyPeriods(t *testing.T) {
	for _, f := range slow() {
		for _, u := range []uint64{1, q, one, m} {
			before := wantFades(u, f, 65535)
			at := wantFade(before, f)
			for _, k := range []struct {
				periods int
				want    uint64
			}{{65535, before}, {65536, at}, {65537, at}, {65538, at}, {1 << 17, at}, {1 << 32, at}, {1<<32 + 1, at}, {math.MaxInt - 1, at}, {math.MaxInt, at}} {
				if x := Fades(u, f, k.periods); x != k.want {
					t.Errorf("Fades(%d, %d, %d): %d, not %d", u, f, k.periods, x, k.want)
				}
			}
			if u == m && (at == 0 || at == before || wantFade(at, f) == at) {
				t.Errorf("the factor %d does not tell 65535, 65536 and 65537 periods apart", f)
			}
		}
	}
}

func TestP104FadesOfFarMoreThanItTakes(t *testing.T) {
	for _, f := range []uint64{0, 1, q, one / 2, one, one + 1, m} {
		for _, u := range usages() {
			want := uint64(0)
			if f >= one {
				want = u
			}
			for _, periods := range []int{64, 65535, 65536, 65537, math.MaxInt} {
				if x := Fades(u, f, periods); x != want {
					t.Errorf("Fades(%d, %d, %d): %d, not %d", u, f, periods, x, want)
				}
			}
		}
	}
}

func TestP104FadesIsOneFadeBehindTheOther(t *testing.T) {
	for _, f := range factors() {
		for _, u := range usages() {
			x := u
			for n := range 20 {
				if got := Fades(u, f, n); got != x {
					t.Fatalf("Fades(%d, %d, %d): %d, not %d", u, f, n, got, x)
				}
				x = Fade(x, f)
			}
		}
	}
}

func TestP104EachPeriodRoundsForItself(t *testing.T) {
	// Three quarters of 2 are 1, and of that 0; nine sixteenths of 2 are 1.
	f := one / 4 * 3
	if Fades(2, f, 2) != 0 || Fade(2, one/16*9) != 1 {
		t.Errorf("of 2: %d and %d", Fades(2, f, 2), Fade(2, one/16*9))
	}
	apart := 0
	for u := range uint64(1000) {
		byPeriods, atOnce := Fades(u, f, 2), Fade(u, one/16*9)
		if byPeriods != u*3/4*3/4 {
			t.Errorf("Fades(%d, 3/4, 2): %d", u, byPeriods)
		}
		if byPeriods != atOnce {
			apart++
		}
	}
	if apart < 100 {
		t.Errorf("only %d of these tell by periods from at once", apart)
	}
}

func TestP105FadeIsNeverAbove(t *testing.T) {
	for _, f := range factors() {
		for _, u := range usages() {
			if x := Fade(u, f); x > u || f < one && u > 0 && x == u {
				t.Errorf("Fade(%d, %d): %d", u, f, x)
			}
		}
	}
}

func TestP105FadeRises(t *testing.T) {
	us, fs := usages(), factors()
	for i, f := range fs {
		for j, u := range us {
			if j > 0 && Fade(us[j-1], f) > Fade(u, f) {
				t.Errorf("Fade by %d falls from %d to %d", f, us[j-1], u)
			}
			if i > 0 && Fade(u, fs[i-1]) > Fade(u, f) {
				t.Errorf("Fade of %d falls from %d to %d", u, fs[i-1], f)
			}
		}
	}
}

// checkSum tells of P10.5, for two usages whose sum fits, how much less the parts are.
func checkSum(t *testing.T, a, b, factor uint64) uint64 {
	t.Helper()
	parts, whole := Fade(a, factor)+Fade(b, factor), Fade(a+b, factor)
	if parts != whole && parts+1 != whole {
		t.Errorf("%d and %d, faded by %d: %d, but their sum: %d", a, b, factor, parts, whole)
	}
	return whole - parts
}

func TestP105FadeOfASum(t *testing.T) {
	less := [2]int{}
	for i, f := range factors() {
		for _, a := range usages() {
			for _, b := range usages() {
				if a <= m-b {
					less[checkSum(t, a, b, f)&1]++
				}
			}
			// Where the sum just fits.
			checkSum(t, a, m-a, f)
			checkSum(t, a, m-a-min(1, m-a), f)
		}
		for k := range uint64(500) {
			a := mixed(uint64(i)*1000+k) >> (k % 64)
			b := mixed(uint64(i)*1000+k+500) >> (k % 61)
			if a <= m-b {
				less[checkSum(t, a, b, f)&1]++
			}
		}
	}
	if less[0] == 0 || less[1] == 0 {
		t.Errorf("as much: %d, one less: %d", less[0], less[1])
	}
}

// bound is K: 2^33 / e, rounded up, but 2 at least.
func bound(period, half int) *big.Int {
	e := halvings(period, half)
	k, rest := new(big.Int).QuoRem(new(big.Int).Lsh(big.NewInt(1), 33), e, new(big.Int))
	if rest.Sign() > 0 {
		k.Add(k, big.NewInt(1))
	}
	if k.Cmp(big.NewInt(2)) < 0 {
		return big.NewInt(2)
	}
	return k
}

// nodeTicks is so many of them as a usage, however great.
func nodeTicks(n *big.Int) *big.Int { return new(big.Int).Lsh(n, 32) }

func bounded(u uint64, c int, k *big.Int) bool {
	return bigOf(u).Cmp(nodeTicks(new(big.Int).Mul(big.NewInt(int64(c)), k))) <= 0
}

// spans are periods and halves at their edges, and where K is 2, just above 2, or great.
func spans() [][2]int {
	l := [][2]int{}
	for _, period := range []int{1, 2, 3, 100, 6299, 6300, api.MaxPeriod - 1, api.MaxPeriod} {
		for _, half := range []int{1, 2, 3, 99, 100, 101, 1000, api.MaxPeriod, api.MaxHalf - 1, api.MaxHalf} {
			l = append(l, [2]int{period, half})
		}
	}
	return append(l, [2]int{1000, 999}, [2]int{1000, 1001}, [2]int{2, 3}, [2]int{3, 2}, [2]int{1000, 1500}, [2]int{1000, 1501})
}

// charges are what one is charged in a period at most: nothing, one, a machine's node-ticks, and more than a usage can hold.
func charges() []int {
	return []int{0, 1, 2, 7, 1000, api.MaxNodes * api.MaxPeriod, 1<<31 - 1, 1 << 31, q - 1, q, 1 << 40, math.MaxInt}
}

// inPieces charges at most c in all, in some pieces.
func inPieces(u uint64, c int, seed uint64) uint64 {
	for i := range uint64(4) {
		piece := int(mixed(seed+i) >> 1 % uint64(c/2+1))
		piece = min(piece, c)
		u = Charge(u, piece)
		c -= piece
	}
	return Charge(u, c)
}

func TestP106Bounded(t *testing.T) {
	for _, s := range spans() {
		f, e := Factor(s[0], s[1])
		if e != api.OK {
			t.Fatalf("Factor(%d, %d): %d", s[0], s[1], e)
		}
		k := bound(s[0], s[1])
		for _, c := range charges() {
			whole, pieces, drawn := uint64(0), uint64(0), uint64(0)
			for n := range uint64(1000) {
				whole = Charge(whole, c)
				pieces = inPieces(pieces, c, n*10)
				drawn = Charge(drawn, int(mixed(n)>>1%(uint64(c)+1)))
				if !bounded(whole, c, k) || !bounded(pieces, c, k) || !bounded(drawn, c, k) {
					t.Fatalf("period %d, half %d, %d a period: %d, %d or %d is above %v times that in the period %d", s[0], s[1], c, whole, pieces, drawn, k, n)
				}
				whole, pieces, drawn = Fade(whole, f), Fade(pieces, f), Fade(drawn, f)
			}
		}
	}
}

// From a usage of c * (K - 1) one charge of c comes just to the bound, and one fade comes back to c * (K - 1) or below: so it goes on however many periods come.
func TestP106BoundedForEver(t *testing.T) {
	for _, s := range spans() {
		f, _ := Factor(s[0], s[1])
		k := bound(s[0], s[1])
		less := new(big.Int).Sub(k, big.NewInt(1))
		for _, c := range charges() {
			high := nodeTicks(new(big.Int).Mul(big.NewInt(int64(c)), less))
			if !high.IsUint64() {
				continue
			}
			u := Charge(high.Uint64(), c)
			if !bounded(u, c, k) || bigOf(Fade(u, f)).Cmp(high) > 0 {
				t.Errorf("period %d, half %d, %d a period: from %v to %d and %d", s[0], s[1], c, high, u, Fade(u, f))
			}
		}
	}
}

func TestP106BoundIsNearWhereAPeriodIsAHalf(t *testing.T) {
	f, _ := Factor(100, 100)
	if k := bound(100, 100); k.Cmp(big.NewInt(2)) != 0 {
		t.Fatalf("K: %v", k)
	}
	for _, c := range []int{1, 1000, api.MaxNodes * api.MaxPeriod, 1<<31 - 1} {
		u := uint64(0)
		for range 200 {
			u = Fade(Charge(u, c), f)
		}
		// As much as is charged is lost, but for what is rounded.
		if want := uint64(c)*q - 1; u != want {
			t.Errorf("%d a period: %d, not %d", c, u, want)
		}
		if u = Charge(u, c); u != 2*uint64(c)*q-1 {
			t.Errorf("%d a period: charged again %d", c, u)
		}
	}
}

func TestChapterExamples(t *testing.T) {
	for _, k := range []struct {
		period, half int
		want         uint64
		e            api.Errno
	}{{100, 100, 1 << 62, api.OK}, {200, 100, 1 << 61, api.OK}, {6300, 100, 0, api.OK}, {0, 1, 0, api.ErrDecayArg}, {1, 1<<30 + 1, 0, api.ErrDecayArg}} {
		if f, e := Factor(k.period, k.half); f != k.want || e != k.e {
			t.Errorf("Factor(%d, %d): %d %d", k.period, k.half, f, e)
		}
	}
	for _, k := range []struct{ got, want uint64 }{
		{Charge(5, 3), 3*q + 5}, {Charge(m, 1), m}, {Charge(5, -1), 5},
		{Fade(7, 1<<62), 3}, {Fades(7, 1<<62, 2), 1}, {Fades(7, 1<<62, -1), 7}, {Fades(7, 1<<63, 9), 7},
	} {
		if k.got != k.want {
			t.Errorf("%d, not %d", k.got, k.want)
		}
	}
}

func TestR5AnswersAlike(t *testing.T) {
	for i := range uint64(200) {
		period, half := int(mixed(i)%(2<<20)), int(mixed(i+1)%(2<<30))
		u, f, n := mixed(i+2), mixed(i+3), int(mixed(i+4)%300)
		f1, e1 := Factor(period, half)
		x1, y1, z1 := Charge(u, n), Fade(u, f), Fades(u, f, n)
		Factor(half, period)
		Fades(f, u, 7)
		f2, e2 := Factor(period, half)
		if f1 != f2 || e1 != e2 || x1 != Charge(u, n) || y1 != Fade(u, f) || z1 != Fades(u, f, n) {
			t.Errorf("asked again, another answer: %d %d %d %d %d", period, half, u, f, n)
		}
	}
}

func FuzzDecay(f *testing.F) {
	f.Add(100, 100, uint64(7), uint64(1<<62), 2)
	f.Add(api.MaxPeriod, api.MaxHalf, uint64(m), one-1, math.MaxInt)
	f.Fuzz(func(t *testing.T, a, b int, u, factor uint64, n int) {
		checkFactor(t, a, b)
		if x := Charge(u, n); x != wantCharge(u, n) {
			t.Errorf("Charge(%d, %d): %d", u, n, x)
		}
		if x := Fade(u, factor); x != wantFade(u, factor) {
			t.Errorf("Fade(%d, %d): %d", u, factor, x)
		}
		if x := Fades(u, factor, n); x != wantFades(u, factor, n) {
			t.Errorf("Fades(%d, %d, %d): %d", u, factor, n, x)
		}
	})
}
