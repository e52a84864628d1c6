package journal

import (
	"bytes"
	"encoding/binary"
	"slices"
	"strconv"
	"testing"

	"backfill/api"
	"backfill/audit"
	"backfill/config"
	"backfill/core"
	"backfill/snap"
	"backfill/verbs"
)

// mixed goes through numbers without an order, always the same ones.
func mixed(seed uint64) uint64 {
	seed += 0x9e3779b97f4a7c15
	seed = (seed ^ seed>>30) * 0xbf58476d1ce4e5b9
	seed = (seed ^ seed>>27) * 0x94d049bb133111eb
	return seed ^ seed>>31
}

type dice struct{ seed uint64 }

func (d *dice) word() uint64 {
	d.seed++
	return mixed(d.seed)
}

func (d *dice) below(n int) int { return int(d.word() % uint64(n)) }

func (d *dice) from(low, high int) int { return low + d.below(high-low+1) }

func (d *dice) oneIn(n int) bool { return d.below(n) == 0 }

func pick[T any](d *dice, l []T) T { return l[d.below(len(l))] }

func (d *dice) bytes(many int) []byte {
	b := make([]byte, many)
	for i := range b {
		b[i] = pick(d, []byte{0, 0, 0, 1, 2, 8, 27, 255, byte(d.word())})
	}
	return b
}

// every is small, so that states are laid down; or so great that none is.
func (d *dice) every() int { return pick(d, []int{1, 2, 2, 3, 3, 5, 10, 4096, d.from(1, 4096)}) }

// drawnConfig is small enough that all that may happen does.
func drawnConfig(d *dice) api.Config {
	for {
		c := api.Config{
			Nodes: pick(d, []int{1, 2, 3, 4, 4, 8, 70}), Queue: d.from(1, 8), Limit: d.from(1, 9),
			Age: pick(d, []int{1, 1, 2, 7, 40}), Fair: pick(d, []int{0, 0, 1000, 2000, 5000}), Size: pick(d, []int{0, 0, 1, 3, 50}),
			Period: pick(d, []int{1, 2, 5, 10, 30}), Half: pick(d, []int{1, 5, 10, 33}),
		}
		if config.Check(c) == 0 {
			return c
		}
	}
}

// those are the numbers of the jobs of some States.
func those(s api.State, states ...int) []int {
	var l []int
	for n, j := range s.Jobs {
		if slices.Contains(states, j.State) {
			l = append(l, n)
		}
	}
	return l
}

// drawnCmd is a command of any kind that may be refused, but mostly is not.
func drawnCmd(d *dice, s api.State) api.Cmd {
	name := func() string {
		return pick(d, []string{pick(d, s.Accounts).Name, pick(d, s.Accounts).Name, s.Accounts[len(s.Accounts)-1].Name, "n" + strconv.Itoa(d.from(1, 5))})
	}
	job := func(states ...int) int {
		l := those(s, states...)
		if len(l) == 0 || d.oneIn(8) {
			return d.below(len(s.Jobs) + 2)
		}
		return pick(d, l)
	}
	c := api.Cmd{Kind: pick(d, []int{1, 1, 1, 1, 1, 1, 1, 2, 3, 3, 4, 4, 4, 4, 4, 4, 4, 5, 6, 7, 8, 9, 10, 11, 12, 13})}
	switch c.Kind {
	case 1:
		c.Name, c.Nodes, c.Limit = name(), d.from(1, s.Config.Nodes), d.from(1, s.Config.Limit)
		if d.oneIn(2) {
			c.Nodes = d.from(1, (s.Config.Nodes+3)/4)
		}
	case 2:
		c.Job = job(1, 2)
	case 3:
		c.Job = job(2)
	case 4:
		c.Ticks = pick(d, []int{1, 1, 1, 2, 3, d.from(1, 9), d.from(1, 40)})
	case 5:
		c.Name, c.Parent, c.Shares = "n"+strconv.Itoa(len(s.Accounts)), name(), d.from(1, 9)
		if d.oneIn(6) {
			c.Name = name()
		}
	case 6:
		c.Name, c.Shares = name(), pick(d, []int{1, 2, 5, 4096, 0})
	case 7:
		c.Name, c.Parent = name(), name()
	case 8, 11:
		c.Name = name()
		if c.Kind == 8 && !d.oneIn(4) {
			c = api.Cmd{Kind: 10}
		}
	case 9:
		c.Job = job(1, 2, 3, 4, 5, 6)
	}
	if d.oneIn(40) {
		*pick(d, []*int{&c.Kind, &c.Job, &c.Nodes, &c.Ticks, &c.Shares}) = pick(d, []int{-1, 0, 3, most, least})
	}
	return c
}

// next is a command of a script: the first ones bring accounts.
func next(d *dice, s api.State, n int) api.Cmd {
	if n >= 3 {
		return drawnCmd(d, s)
	}
	return api.Cmd{Kind: 5, Name: "n" + strconv.Itoa(n+1), Parent: pick(d, s.Accounts).Name, Shares: d.from(1, 5)}
}

// drawnTwin is a twin behind a drawn script, of a new core.
func drawnTwin(t *testing.T, d *dice, every, many int) *twin {
	t.Helper()
	w := twinOf(begun(t, drawnConfig(d)), every)
	for n := range many {
		w.do(next(d, w.x.State(), n))
	}
	return w
}

// drawnState is one that audit takes, though hardly one that a core comes to: anybody who may holds, usages are any, and the clock may be near its end.
func drawnState(t *testing.T, d *dice) api.State {
	t.Helper()
	s := drawnTwin(t, d, 4096, d.from(3, 40)).x.State()
	s.Holder = -1
	for _, n := range those(s, 1) {
		if s.Jobs[n].Submit < s.Now && d.oneIn(2) {
			s.Holder = n
		}
	}
	for n := range s.Accounts {
		s.Accounts[n].Usage = pick(d, []uint64{0, s.Accounts[n].Usage, d.word() % (s.Accounts[n].Usage + 1)})
	}
	if d.oneIn(2) {
		later(&s, 1<<40-config.Bound(s.Config)-s.Now-d.below(20))
	}
	if audit.Check(s) != 0 {
		t.Fatal(short(s), audit.Check(s))
	}
	return s
}

// later lets all have been so many ticks later.
func later(s *api.State, ticks int) {
	s.Now += ticks
	for n := range s.Jobs {
		j := &s.Jobs[n]
		j.Submit += ticks
		if j.State >= 2 && j.State <= 5 {
			j.Start += ticks
		}
		if j.State > 2 {
			j.End += ticks
		}
	}
}

// tally counts what drawn commands were: done, refused or such that only look; and which of them laid a state down.
type tally struct {
	kinds, refused [14]int
	codes          map[api.Errno]int
	laid           int
}

func (y *tally) count(c api.Cmd, code api.Errno, w *twin, was int) {
	if y.codes == nil {
		y.codes = map[api.Errno]int{}
	}
	y.codes[code]++
	if c.Kind >= 1 && c.Kind <= 13 {
		if code == 0 {
			y.kinds[c.Kind]++
		} else {
			y.refused[c.Kind]++
		}
	}
	if w.count > was && w.count%w.every == 0 {
		y.laid++
	}
}

// A journal, clones of it, and what Open makes of its bytes, told drawn commands: each goes as its twin does.
func TestP233And234DrawnScripts(t *testing.T) {
	y := &tally{}
	for seed := range uint64(300) {
		d := &dice{1000 * seed}
		c, every := drawnConfig(d), d.every()
		j, e := New(c, every)
		if e != 0 {
			t.Fatal(c, every, e)
		}
		w := twinOf(begun(t, c), every)
		for n := range d.from(3, 60) {
			c := next(d, w.x.State(), n)
			was := w.count
			switch d.below(12) {
			case 0:
				k, v := j.Clone(), *w
				v.x = w.x.Clone()
				tells(t, j, w, c)
				for range d.below(4) {
					tells(t, k, &v, drawnCmd(d, v.x.State()))
				}
				alike(t, j, w)
				continue
			case 1:
				k := j.Clone()
				k.Do(c)
				k.Do(drawnCmd(d, w.x.State()))
				k.Core().Do(c)
				j.Core().Do(c)
			case 2:
				b := j.Bytes()
				var n int
				j, n, e = Open(b, every)
				if e != 0 || n != len(b) {
					t.Fatal(n, len(b), e)
				}
				scribble(b)
			}
			y.count(c, tells(t, j, w, c).Code, w, was)
		}
		opens(t, w.all, d.every())
	}
	for kind := 1; kind <= 13; kind++ {
		if y.kinds[kind] < 20 || kind <= 9 && y.refused[kind] < 5 {
			t.Errorf("%+v", y)
		}
	}
	for _, e := range []api.Errno{61, 62, 63, 66, 84, 181, 182, 183, 184, 187} {
		if y.codes[e] < 3 {
			t.Errorf("%d %+v", e, y)
		}
	}
	if y.laid < 500 {
		t.Errorf("%+v", y)
	}
}

// Journals of first states that no core has come to.
func TestP232DrawnFirstStates(t *testing.T) {
	codes := map[api.Errno]int{}
	for seed := range uint64(150) {
		d := &dice{1<<20 + 1000*seed}
		x, e := core.Load(drawnState(t, d))
		if e != 0 {
			t.Fatal(e)
		}
		every := d.every()
		w := twinOf(x, every)
		j, n, e := Open(w.all, every)
		if e != 0 || n != len(w.all) {
			t.Fatal(n, e)
		}
		for range d.from(1, 30) {
			codes[tells(t, j, w, drawnCmd(d, w.x.State())).Code]++
		}
		opens(t, w.all, d.every())
	}
	if codes[0] < 500 || codes[180] < 20 {
		t.Error(codes)
	}
}

// W9 at every cut of drawn scripts' bytes.
func TestP235DrawnCuts(t *testing.T) {
	laid, cuts := 0, 0
	for seed := range uint64(40) {
		d := &dice{1<<21 + 1000*seed}
		c := drawnConfig(d)
		every := pick(d, []int{2, 3, 5, 9, 4096})
		w := twinOf(begun(t, c), every)
		type stand struct {
			x    *core.Core
			cmds int
		}
		stands := []stand{{w.x.Clone(), 0}}
		var script []api.Cmd
		for n := range 14 {
			c := next(d, w.x.State(), n)
			was := w.count
			script = append(script, c)
			w.do(c)
			for len(stands) < len(w.marks) {
				stands = append(stands, stand{w.x.Clone(), len(script)})
			}
			if w.count > was && w.count%every == 0 {
				laid++
			}
		}
		for i, mark := range w.marks {
			end := len(w.all)
			if i+1 < len(w.marks) {
				end = w.marks[i+1] - 1
			}
			want := snap.Save(stands[i].x)
			for cut := mark; cut <= end; cut++ {
				cuts++
				j, n, e := Open(w.all[:cut], 3)
				if e != 0 || n != mark || !bytes.Equal(j.Bytes(), w.all[:mark]) || !bytes.Equal(snap.Save(j.Core()), want) {
					t.Fatal(cut, n, e, mark)
				}
			}
			goesOn(t, d, counts(t, w.all[:end], mark), stands[i].x.Clone(), script[stands[i].cmds:])
		}
		for cut := range w.marks[0] {
			if j, n, e := Open(w.all[:cut], 3); j != nil || n != 0 || e != 230 {
				t.Fatal(cut, n, e)
			}
		}
	}
	if laid < 50 || cuts < 20000 {
		t.Error(laid, cuts)
	}
}

// goesOn lets a journal answer all further commands as a core does.
func goesOn(t *testing.T, d *dice, j *Journal, x *core.Core, script []api.Cmd) {
	t.Helper()
	for range 6 {
		script = append(slices.Clone(script), drawnCmd(d, x.State()))
	}
	for _, c := range script {
		a, _ := j.Do(c)
		if b := x.Do(c); !sameAnswer(a, b) {
			t.Fatalf("%+v: %s, not %s", c, short(a), short(b))
		}
	}
	if !bytes.Equal(snap.Save(j.Core()), snap.Save(x)) {
		t.Fatalf("%s, not %s", short(j.Core().State()), short(x.State()))
	}
}

// part is a record that may be changed.
type part struct {
	kind   byte
	number uint64
	load   []byte
}

func partsOf(w *twin) []part {
	var l []part
	at := 0
	for _, mark := range w.marks {
		b := w.all[at:mark]
		l = append(l, part{b[0], binary.BigEndian.Uint64(b[1:]), bytes.Clone(b[13 : len(b)-8])})
		at = mark
	}
	return l
}

func bytesOf(l []part) []byte {
	var b []byte
	for _, p := range l {
		b = append(b, rec(p.kind, p.number, p.load)...)
	}
	return b
}

// changed are records with one of them changed, left out, doubled, put elsewhere, or put in; the sums are right.
func changed(d *dice, l, others []part) []part {
	l = slices.Clone(l)
	i := d.below(len(l))
	p := &l[i]
	line := func() []byte {
		text, _ := verbs.Print(drawnCmd(d, api.State{Config: api.Config{Nodes: 2, Limit: 2}, Accounts: []api.Account{{Name: "root"}, {Name: "n1"}, {Name: "n2"}}}))
		return []byte(text)
	}
	switch d.below(12) {
	case 0:
		p.kind = pick(d, []byte{0, 1, 2, 3, byte(d.word())})
	case 1:
		p.number = pick(d, []uint64{0, 1, p.number - 1, p.number + 1, p.number + 1<<32, d.word()})
	case 2:
		p.load = bytes.Clone(p.load)
		if len(p.load) > 0 {
			p.load[d.below(len(p.load))] = pick(d, []byte{0, 1, ' ', '1', '2', 'a', byte(d.word())})
		}
	case 3:
		p.load = p.load[:d.below(len(p.load)+1)]
	case 4:
		p.load = append(bytes.Clone(p.load), d.bytes(d.from(1, 9))...)
	case 5:
		l = slices.Delete(l, i, i+1)
	case 6:
		l = slices.Insert(l, i, *p)
	case 7:
		k := d.below(len(l))
		l[i], l[k] = l[k], l[i]
	case 8:
		// Another line in its place, of whatever kind.
		if p.kind == 2 {
			p.load = line()
		}
	case 9:
		if p.kind == 2 {
			l = slices.Insert(l, i+1, part{2, p.number + 1, line()})
		}
	case 10:
		*p = pick(d, others)
	case 11:
		p.load = pick(d, others).load
	}
	return l
}

// stretched are bytes of which some are changed, put in or left out, whatever record they belong to.
func stretched(d *dice, b []byte) []byte {
	at := d.below(len(b) + 1)
	end := min(len(b), at+pick(d, []int{0, 1, 1, 1, 4, 8, 21, d.from(1, 200)}))
	return slices.Concat(b[:at], d.bytes(pick(d, []int{0, end - at, end - at, end - at, d.from(1, 40)})), b[end:])
}

func TestP232DrawnSpoilt(t *testing.T) {
	none, whole, some, odd := 0, 0, 0, 0
	for seed := range uint64(300) {
		d := &dice{1<<22 + 1000*seed}
		w := drawnTwin(t, d, d.every(), d.from(3, 14))
		v := drawnTwin(t, d, d.every(), d.from(3, 9))
		l := partsOf(w)
		if !bytes.Equal(bytesOf(l), w.all) {
			t.Fatal("the parts are not the records")
		}
		for range 20 {
			var b []byte
			if d.oneIn(4) {
				b = stretched(d, w.all)
			} else {
				m := l
				for range pick(d, []int{1, 1, 1, 2, 3}) {
					if len(m) > 0 {
						m = changed(d, m, partsOf(v))
					}
				}
				b = bytesOf(m)
			}
			_, n := opens(t, b, d.every())
			same := 0
			for same < min(len(b), len(w.all)) && b[same] == w.all[same] {
				same++
			}
			switch {
			case n == 0:
				none++
			case n == len(b):
				whole++
			default:
				some++
			}
			// More is right than what was the journal's.
			if n > same {
				odd++
			}
			for _, mark := range w.marks {
				if mark <= same && n < mark {
					t.Fatalf("%s: %d bytes count, though %d are right", short(b), n, mark)
				}
			}
		}
	}
	if none < 200 || whole < 200 || some < 1500 || odd < 100 {
		t.Error(none, whole, some, odd)
	}
}

func TestP236AnyBytes(t *testing.T) {
	made := 0
	for seed := range uint64(1500) {
		d := &dice{1<<23 + 1000*seed}
		first := stateRec(0, begun(t, example(), script()[:d.below(5)]...))
		b := d.bytes(d.below(120))
		opens(t, b, d.every())
		// Behind a first record, and with a sum that is right.
		if _, n := opens(t, append(first, b...), d.every()); n > 0 {
			made++
		}
		opens(t, summed(b), d.every())
		opens(t, slices.Concat(first, summed(b)), d.every())
		opens(t, rec(1, 0, b), d.every())
		opens(t, slices.Concat(first, rec(byte(d.from(1, 2)), uint64(d.below(3)), b)), d.every())
	}
	if made != 1500 {
		t.Error(made)
	}
}

// Each byte of drawn journals turned to another one.
func TestP236DrawnBytesTurned(t *testing.T) {
	for seed := range uint64(15) {
		d := &dice{1<<24 + 1000*seed}
		w := drawnTwin(t, d, d.every(), 12)
		for place := range w.all {
			b := bytes.Clone(w.all)
			b[place] ^= byte(d.from(1, 255))
			ahead := 0
			for _, mark := range w.marks {
				if mark <= place {
					ahead = mark
				}
			}
			j, n, e := Open(b, d.every())
			if n != ahead || (e == 0) != (ahead > 0) || e == 0 && !bytes.Equal(j.Bytes(), w.all[:ahead]) {
				t.Fatal(place, n, e, ahead)
			}
			if d.oneIn(50) {
				opens(t, b, d.every())
			}
		}
	}
}

func TestP237DrawnEverys(t *testing.T) {
	unlike := 0
	for seed := range uint64(100) {
		d := &dice{1<<25 + 1000*seed}
		c := drawnConfig(d)
		first, second := d.every(), d.every()
		j, _ := New(c, first)
		k, _ := New(c, second)
		for n := range 40 {
			c := next(d, j.Core().State(), n)
			a, b := j.Do(c)
			other, told := k.Do(c)
			if !sameAnswer(a, other) || (len(b) == 0) != (len(told) == 0) {
				t.Fatalf("%+v: %s, not %s", c, short(other), short(a))
			}
			if len(b) > 0 {
				line, _ := verbs.Print(c)
				if many := 13 + len(line) + 8; !bytes.Equal(b[:many], told[:many]) {
					t.Fatalf("%+v: %s, not %s", c, short(told), short(b))
				}
				if len(b) != len(told) {
					unlike++
				}
			}
		}
		if !sameState(j.Core().State(), k.Core().State()) {
			t.Fatalf("%s, not %s", short(k.Core().State()), short(j.Core().State()))
		}
	}
	if unlike < 200 {
		t.Error(unlike)
	}
}

func FuzzOpen(f *testing.F) {
	for _, b := range [][]byte{
		{}, {1}, bytes.Repeat([]byte{0}, 21), summed(bare(1, 0, 0, nil)),
		rec(1, 0, []byte("backfill1")), rec(2, 1, []byte("tick 1")),
	} {
		f.Add(b, false)
		f.Add(b, true)
	}
	x, _ := core.New(example())
	b := stateRec(0, x)
	f.Add(slices.Concat(b, lineRec(1, "tick 1"), lineRec(2, "account a root 1")), false)
	f.Fuzz(func(t *testing.T, more []byte, behind bool) {
		if behind {
			more = slices.Concat(b, more)
		}
		opens(t, more, 1)
		opens(t, summed(more), 7)
	})
}
