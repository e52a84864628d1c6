package snap

import (
	"bytes"
	"encoding/binary"
	"math"
	"slices"
	"strconv"
	"testing"

	"backfill/api"
	"backfill/audit"
	"backfill/config"
	"backfill/core"
)

// mixed goes through numbers without an order, always the same ones.
func mixed(seed uint64) uint64 {
	seed += 0x9e3779b97f4a7c15
	seed = (seed ^ seed>>30) * 0xbf58476d1ce4e5b9
	seed = (seed ^ seed>>27) * 0x94d049bb133111eb
	return seed ^ seed>>31
}

type dice struct{ seed uint64 }

func (d *dice) word() uint64 {
	d.seed++
	return mixed(d.seed)
}

func (d *dice) below(n int) int { return int(d.word() % uint64(n)) }

func (d *dice) from(low, high int) int { return low + d.below(high-low+1) }

func (d *dice) oneIn(n int) bool { return d.below(n) == 0 }

func pick[T any](d *dice, l []T) T { return l[d.below(len(l))] }

func (d *dice) bytes(many int) []byte {
	b := make([]byte, many)
	for i := range b {
		b[i] = pick(d, []byte{0, 0, 0, 1, 2, 4, 8, 255, byte(d.word())})
	}
	return b
}

// drawnConfig is small enough that all that may happen does.
func drawnConfig(d *dice) api.Config {
	for {
		c := api.Config{
			Nodes: pick(d, []int{1, 2, 3, 4, 4, 8, 70}), Queue: d.from(1, 8), Limit: d.from(1, 9),
			Age: pick(d, []int{1, 1, 2, 7, 40}), Fair: pick(d, []int{0, 0, 1000, 2000, 5000}), Size: pick(d, []int{0, 0, 1, 3, 50}),
			Period: pick(d, []int{1, 2, 5, 10, 30}), Half: pick(d, []int{1, 5, 10, 33}),
		}
		if config.Check(c) == 0 {
			return c
		}
	}
}

// those are the numbers of the jobs of some States.
func those(s api.State, states ...int) []int {
	var l []int
	for n, j := range s.Jobs {
		if slices.Contains(states, j.State) {
			l = append(l, n)
		}
	}
	return l
}

// drawnCmd is a command that may be refused, but mostly is not.
func drawnCmd(d *dice, s api.State) api.Cmd {
	name := func() string {
		return pick(d, []string{pick(d, s.Accounts).Name, pick(d, s.Accounts).Name, s.Accounts[len(s.Accounts)-1].Name, "n" + strconv.Itoa(d.from(1, 5))})
	}
	job := func(states ...int) int {
		l := those(s, states...)
		if len(l) == 0 || d.oneIn(8) {
			return d.below(len(s.Jobs) + 2)
		}
		return pick(d, l)
	}
	c := api.Cmd{Kind: pick(d, []int{1, 1, 1, 1, 1, 1, 1, 2, 3, 3, 4, 4, 4, 4, 4, 4, 4, 5, 6, 7, 8, 9, 10, 11, 12, 13})}
	switch c.Kind {
	case 1:
		c.Name, c.Nodes, c.Limit = name(), d.from(1, s.Config.Nodes), d.from(1, s.Config.Limit)
		if d.oneIn(2) {
			c.Nodes = d.from(1, (s.Config.Nodes+3)/4)
		}
	case 2:
		c.Job = job(1, 2)
	case 3:
		c.Job = job(2)
	case 4:
		c.Ticks = pick(d, []int{1, 1, 1, 2, 3, d.from(1, 9), d.from(1, 40)})
	case 5:
		c.Name, c.Parent, c.Shares = "n"+strconv.Itoa(len(s.Accounts)), name(), d.from(1, 9)
	case 6:
		c.Name, c.Shares = name(), pick(d, []int{1, 2, 5, 4096, 0})
	case 7:
		c.Name, c.Parent = name(), name()
	case 8, 11:
		c.Name = name()
		if c.Kind == 8 && !d.oneIn(4) {
			c = api.Cmd{Kind: 10}
		}
	case 9:
		c.Job = job(1, 2, 3, 4, 5, 6)
	}
	if d.oneIn(40) {
		*pick(d, []*int{&c.Kind, &c.Job, &c.Nodes, &c.Ticks, &c.Shares}) = pick(d, []int{-1, 0, 3, most, least})
	}
	return c
}

// next is a command of a script: the first ones bring accounts, of names of each length.
func next(d *dice, s api.State, n int) api.Cmd {
	if n >= 3 {
		return drawnCmd(d, s)
	}
	name := []string{"n", "n2", longName()}[n]
	return api.Cmd{Kind: 5, Name: name, Parent: pick(d, s.Accounts).Name, Shares: d.from(1, 5)}
}

// drawnState is one that audit takes: as a core has come to it; or with nodes renamed, anybody who may as holder, any usages, and the clock near its end.
func drawnState(t *testing.T, d *dice) api.State {
	t.Helper()
	x := begun(t, drawnConfig(d))
	for n := range d.from(3, 40) {
		x.Do(next(d, x.State(), n))
	}
	s := x.State()
	if d.oneIn(2) {
		return s
	}
	s.Holder = -1
	for _, n := range those(s, 1) {
		if s.Jobs[n].Submit < s.Now && d.oneIn(2) {
			s.Holder = n
		}
	}
	for n := range s.Accounts {
		s.Accounts[n].Usage = pick(d, []uint64{0, s.Accounts[n].Usage, d.word() % (s.Accounts[n].Usage + 1)})
	}
	turn := d.below(s.Config.Nodes)
	for n := range s.Jobs {
		for i := range s.Jobs[n].Set {
			s.Jobs[n].Set[i] = (s.Jobs[n].Set[i] + turn) % s.Config.Nodes
		}
		slices.Sort(s.Jobs[n].Set)
	}
	if d.oneIn(2) {
		later(&s, 1<<40-config.Bound(s.Config)-s.Now-d.below(20))
	}
	if audit.Check(s) != 0 {
		t.Fatal(short(s), audit.Check(s))
	}
	return s
}

// later lets all have been so many ticks later.
func later(s *api.State, ticks int) {
	s.Now += ticks
	for n := range s.Jobs {
		j := &s.Jobs[n]
		j.Submit += ticks
		if j.State >= 2 && j.State <= 5 {
			j.Start += ticks
		}
		if j.State > 2 {
			j.End += ticks
		}
	}
}

func TestP194DrawnStates(t *testing.T) {
	seen := map[string]api.State{}
	had := map[int]int{}
	for seed := range uint64(600) {
		s := drawnState(t, &dice{1000 * seed})
		b := put(t, s)
		back, e := got(t, b)
		if e != 0 || !sameState(back, s) {
			t.Fatalf("%d %s, not %s", e, short(back), short(s))
		}
		// Two states have unlike bytes.
		if other, ok := seen[string(b)]; ok && !sameState(other, s) {
			t.Fatalf("%s and %s", short(other), short(s))
		}
		seen[string(b)] = s
		for _, j := range s.Jobs {
			had[j.State]++
		}
	}
	for state := 1; state <= 6; state++ {
		if had[state] < 50 {
			t.Error(had)
		}
	}
}

// Neither more bytes behind a state's nor fewer are a state's.
func TestP194DrawnEnds(t *testing.T) {
	for seed := range uint64(150) {
		d := &dice{1<<20 + 1000*seed}
		b := bytesOf(drawnState(t, d))
		for range 20 {
			refuses(t, b[:d.below(len(b))], 190)
			refuses(t, slices.Concat(b, d.bytes(d.from(1, 80))), 190)
		}
	}
}

func TestP196DrawnBits(t *testing.T) {
	for seed := range uint64(40) {
		d := &dice{1<<21 + 1000*seed}
		s := drawnState(t, d)
		b := bytesOf(s)
		for range 300 {
			turned := bytes.Clone(b)
			turned[d.below(len(b))] ^= 1 << d.below(8)
			if other, e := got(t, turned); e == 0 && sameState(other, s) {
				t.Fatalf("%s are %s too", short(turned), short(s))
			}
		}
	}
}

// goOn lets a core and others do drawn commands: they answer alike, and stand alike behind each; some of them are written and read again anew, and so is, for one command, who has just been.
func goOn(t *testing.T, d *dice, x *core.Core, first, many int) map[api.Errno]int {
	t.Helper()
	codes := map[api.Errno]int{}
	others := []*core.Core{restored(t, x), restored(t, restored(t, x))}
	for n := range many {
		c := next(d, x.State(), first+n)
		again := restored(t, x)
		a := x.Do(c)
		codes[a.Code]++
		for _, y := range append(slices.Clone(others), again) {
			if b := y.Do(c); !sameAnswer(a, b) || !sameState(x.State(), y.State()) {
				t.Fatalf("%+v: %s, not %s", c, short(b), short(a))
			}
			if !bytes.Equal(Save(x), Save(y)) {
				t.Fatalf("%+v: %s, not %s", c, short(Save(y)), short(Save(x)))
			}
		}
		if d.oneIn(10) {
			others[1] = restored(t, others[1])
		}
	}
	return codes
}

func TestP195DrawnScripts(t *testing.T) {
	codes := map[api.Errno]int{}
	for seed := range uint64(100) {
		d := &dice{1<<22 + 1000*seed}
		for e, many := range goOn(t, d, begun(t, drawnConfig(d)), 0, 60) {
			codes[e] += many
		}
	}
	for seed := range uint64(100) {
		d := &dice{1<<23 + 1000*seed}
		for e, many := range goOn(t, d, loaded(t, drawnState(t, d)), 3, 30) {
			codes[e] += many
		}
	}
	for _, e := range []api.Errno{0, 84, 180, 181, 182, 183, 184, 187} {
		if codes[e] < 5 {
			t.Errorf("%d is told %d times", e, codes[e])
		}
	}
}

// anyState is of any numbers: it has bytes, and is refused, or taken, as audit says.
func anyState(d *dice) api.State {
	number := func() int {
		return pick(d, []int{0, 1, 2, 3, 4, 7, 10, 100, -1, most, least, 1 << 40, int(d.word())})
	}
	fill := func(places ...*int) {
		for _, place := range places {
			*place = number()
		}
	}
	s := fresh(example())
	if d.oneIn(3) {
		c := &s.Config
		fill(&c.Nodes, &c.Queue, &c.Limit, &c.Age, &c.Fair, &c.Size, &c.Period, &c.Half, &s.Now, &s.Holder)
	}
	for range d.below(4) {
		a := api.Account{Name: string(d.bytes(d.below(40))), Closed: d.oneIn(2), Usage: d.word()}
		fill(&a.Parent, &a.Shares)
		s.Accounts = append(s.Accounts, a)
	}
	for range d.below(4) {
		j := api.Job{}
		fill(&j.Account, &j.Nodes, &j.Limit, &j.Submit, &j.State, &j.Start, &j.End)
		for range d.below(5) {
			j.Set = append(j.Set, number())
		}
		s.Jobs = append(s.Jobs, j)
	}
	return s
}

func TestP192DrawnRefused(t *testing.T) {
	refused := 0
	for seed := range uint64(3000) {
		s := anyState(&dice{1<<24 + 1000*seed})
		want := api.Errno(0)
		if audit.Check(s) != 0 {
			want, refused = 191, refused+1
		}
		if b, e := Put(s); e != want || e != 0 && b != nil {
			t.Fatalf("%s: %d", short(s), e)
		}
		if _, e := got(t, bytesOf(s)); e != want {
			t.Fatalf("%s: %d", short(s), e)
		}
	}
	if refused < 1000 || refused == 3000 {
		t.Error(refused)
	}
}

// spoilt are bytes with a drawn part changed, put in, or left out.
func spoilt(d *dice, f *sheet, b []byte) []byte {
	at := d.below(len(b) + 1)
	if d.oneIn(2) {
		// Where a number stood in the sheet, at least.
		all := slices.Concat(f.at["config"], f.at["now"], f.at["holder"], f.at["accounts"], f.at["name"], f.at["closed"], f.at["usage"], f.at["jobs"], f.at["job"], f.at["set"], f.at["node"])
		at = min(pick(d, all), len(b))
	}
	end := min(len(b), at+pick(d, []int{1, 8, 8, 16, 64, d.from(1, 100)}))
	var part []byte
	switch d.below(6) {
	case 0:
		part = d.bytes(end - at)
	case 1:
		end = at
		part = d.bytes(pick(d, []int{1, 8, 40, 64, d.from(1, 100)}))
	case 2:
		part = nil
	case 3:
		// Its neighbour once more.
		part = slices.Concat(b[at:end], b[at:end])
	case 4:
		n := pick(d, []uint64{0, 1, 2, 3, 4, 5, 8, 10, 100, 1 << 20, 1 << 40, 1 << 61, 1<<61 + 1, math.MaxInt64, 1 << 63, math.MaxUint64})
		end = min(len(b), at+8)
		part = binary.BigEndian.AppendUint64(nil, n)
	case 5:
		// One more, or one less.
		part = bytes.Clone(b[at:end])
		if len(part) > 0 {
			part[min(len(part)-1, 7)] += byte(pick(d, []int{1, -1}))
		}
	}
	return slices.Concat(b[:at], part, b[end:])
}

// checkAny asks what holds of any bytes whatever: they are refused, or are a state that audit takes and whose bytes they are (got asks it); Restore tells the same.
func checkAny(t *testing.T, b []byte) api.Errno {
	t.Helper()
	was := bytes.Clone(b)
	s, e := got(t, b)
	x, f := Restore(b)
	if e != f || (x == nil) != (e != 0) || !bytes.Equal(b, was) {
		t.Fatalf("%s: %d, but Restore %d", short(b), e, f)
	}
	if e == 0 && (!sameState(x.State(), s) || !bytes.Equal(Save(x), b)) {
		t.Fatalf("%s: %s, but Restore %s", short(b), short(s), short(x.State()))
	}
	return e
}

func TestP192AnyBytes(t *testing.T) {
	told := map[api.Errno]int{}
	for seed := range uint64(4000) {
		d := &dice{1<<25 + 1000*seed}
		b := d.bytes(d.below(300))
		told[checkAny(t, b)]++
		told[checkAny(t, append([]byte("backfill1"), b...))]++
		// Numbers that are small, so that some are counts of what there is.
		many := d.from(11, 40)
		b = []byte("backfill1")
		for range many {
			b = binary.BigEndian.AppendUint64(b, uint64(pick(d, []int{0, 0, 0, 0, 1, 1, 2, 4, 10})))
		}
		told[checkAny(t, b)]++
	}
	if told[190] < 5000 || told[191] < 50 {
		t.Error(told)
	}
}

func TestP192SpoiltBytes(t *testing.T) {
	told := map[api.Errno]int{}
	for seed := range uint64(1000) {
		d := &dice{1<<26 + 1000*seed}
		f := sheetOf(drawnState(t, d))
		for range 60 {
			b := f.b
			for range d.from(1, 3) {
				b = spoilt(d, f, b)
			}
			told[checkAny(t, b)]++
		}
	}
	if told[0] < 500 || told[190] < 5000 || told[191] < 5000 {
		t.Error(told)
	}
}

func FuzzGet(f *testing.F) {
	for _, s := range append(taken()[:6], refusedStates()[:12]...) {
		f.Add(bytesOf(s))
	}
	f.Add([]byte("backfill1"))
	f.Fuzz(func(t *testing.T, b []byte) { checkAny(t, b) })
}

func FuzzScripts(f *testing.F) {
	for seed := range uint64(3) {
		f.Add(seed, uint8(20))
	}
	f.Fuzz(func(t *testing.T, seed uint64, many uint8) {
		d := &dice{seed}
		goOn(t, d, begun(t, drawnConfig(d)), 0, 3+int(many))
	})
}
