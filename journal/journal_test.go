package journal

import (
	"bytes"
	"encoding/binary"
	"errors"
	"hash/fnv"
	"math"
	"math/big"
	"slices"
	"strings"
	"sync"
	"testing"

	"backfill/api"
	"backfill/core"
	"backfill/snap"
	"backfill/verbs"
)

// The tests hold the package against the chapter's records as they're written out here (rec), with kinds and errors as their numbers.

const (
	least = math.MinInt
	most  = math.MaxInt
)

// example is the config of DOC.md's examples.
func example() api.Config {
	return api.Config{Nodes: 4, Queue: 8, Limit: 10, Age: 1, Fair: 0, Size: 0, Period: 100, Half: 100}
}

// fair has usages that fade soon, and priorities of all three parts.
func fair() api.Config {
	return api.Config{Nodes: 8, Queue: 3, Limit: 12, Age: 2, Fair: 5000, Size: 3, Period: 5, Half: 10}
}

func cmd(t *testing.T, line string) api.Cmd {
	t.Helper()
	c, e := verbs.Parse(line)
	if e != 0 {
		t.Fatal(line, e)
	}
	return c
}

// begun is a core behind lines that are not refused.
func begun(t *testing.T, c api.Config, lines ...string) *core.Core {
	t.Helper()
	x, e := core.New(c)
	if e != 0 {
		t.Fatal(c, e)
	}
	for _, line := range lines {
		if a := x.Do(cmd(t, line)); a.Code != 0 {
			t.Fatal(line, a.Code)
		}
	}
	return x
}

// kept is a journal behind lines that are not refused, and its twin.
func kept(t *testing.T, c api.Config, every int, lines ...string) (*Journal, *twin) {
	t.Helper()
	j, e := New(c, every)
	if e != 0 || j == nil {
		t.Fatal(c, every, e)
	}
	w := twinOf(begun(t, c), every)
	alike(t, j, w)
	for _, line := range lines {
		if a := tells(t, j, w, cmd(t, line)); a.Code != 0 {
			t.Fatal(line, a.Code)
		}
	}
	return j, w
}

// script has every kind of change, and is never refused; behind it there are jobs of each State.
func script() []string {
	return []string{
		"account a root 1", "submit a 3 5", "submit a 3 5", "submit a 1 5", "submit a 1 6", "tick 1", "tick 5", "complete 1",
		"account b a 7", "close b", "submit a 4 10", "cancel 4", "submit a 4 10", "tick 1", "cancel 3", "shares a 4096", "tick 3", "move b root", "submit a 2 3",
	}
}

// turned has one bit of bytes turned.
func turned(b []byte, at, bit int) []byte {
	b = bytes.Clone(b)
	b[at] ^= 1 << bit
	return b
}

func TestErrorNumbers(t *testing.T) {
	if api.ErrArg != 1 || api.ErrJournalForm != 230 || api.MaxJobs != 4096 {
		t.Error(api.ErrArg, api.ErrJournalForm, api.MaxJobs)
	}
}

// The sum against numbers of any size, the library's, and two that are known.
func TestSum(t *testing.T) {
	ring := new(big.Int).Lsh(big.NewInt(1), 64)
	for _, text := range []string{"", "a", "foobar", "\x00", "\xff\xff\xff\xff\xff\xff\xff\xff\xff", strings.Repeat("backfill1", 100)} {
		sum := new(big.Int).SetUint64(14695981039346656037)
		for _, one := range []byte(text) {
			low := byte(sum.Uint64())
			sum.Sub(sum, big.NewInt(int64(low)))
			sum.Add(sum, big.NewInt(int64(low^one)))
			sum.Mul(sum, big.NewInt(1099511628211))
			sum.Mod(sum, ring)
		}
		h := fnv.New64a()
		h.Write([]byte(text))
		if got := plainSum([]byte(text)); got != sum.Uint64() || got != h.Sum64() || sumOf([]byte(text)) != got {
			t.Errorf("%q: %d, %d, %d, %d", text, sumOf([]byte(text)), got, sum, h.Sum64())
		}
	}
	if plainSum(nil) != 0xcbf29ce484222325 || plainSum([]byte("a")) != 0xaf63dc4c8601ec8c {
		t.Error(plainSum(nil), plainSum([]byte("a")))
	}
}

func TestChapterExamples(t *testing.T) {
	j, e := New(example(), 2)
	if e != 0 || len(j.Bytes()) != 170 {
		t.Fatal(e)
	}
	does := func(line string, code api.Errno, id int) []byte {
		t.Helper()
		a, b := j.Do(cmd(t, line))
		if a.Code != code || a.Id != id {
			t.Error(line, a)
		}
		return b
	}
	if b := does("account a root 1", 0, 1); len(b) != 37 || !bytes.Equal(b, lineRec(1, "account a root 1")) {
		t.Error(b)
	}
	if a, b := j.Do(cmd(t, "queue")); !sameAnswer(a, begun(t, example(), "account a root 1").Do(cmd(t, "queue"))) || len(b) != 0 {
		t.Error(a, b)
	}
	if b := does("submit b 1 1", 181, 0); len(b) != 0 {
		t.Error(b)
	}
	x := begun(t, example(), "account a root 1", "submit a 2 5")
	if b := does("submit a 2 5", 0, 0); !bytes.Equal(b[:33], lineRec(2, "submit a 2 5")) || !bytes.Equal(b[33:], stateRec(2, x)) {
		t.Error(b)
	}
	all := j.Bytes()
	y := counts(t, all[:207], 207)
	if l := y.Core().State().Accounts; len(l) != 2 || l[1].Name != "a" {
		t.Error(l)
	}
	if l := counts(t, all[:206], 170).Core().State().Accounts; len(l) != 1 {
		t.Error(l)
	}
	counts(t, all[:169], 0)
	if j, n, e := Open(nil, 1); j != nil || n != 0 || e != 230 {
		t.Error(n, e)
	}
	for _, b := range [][]byte{nil, {1}, all, all[:169]} {
		if j, n, e := Open(b, 0); j != nil || n != 0 || e != 1 {
			t.Error(n, e)
		}
	}
	if j, e := New(example(), 4097); j != nil || e != 1 {
		t.Error(e)
	}
}

// refusedConfigs are such that core.New refuses, by its errors. (No config is refused by ErrConfigScale alone: Age is too small for that.)
func refusedConfigs() map[api.Errno]api.Config {
	usage, rounding := example(), example()
	usage.Period, usage.Half = 1, 1<<30
	rounding.Fair = 1
	return map[api.Errno]api.Config{110: {}, 111: usage, 113: rounding}
}

func TestP231Every(t *testing.T) {
	for _, every := range []int{1, 2, 3, 100, 4095, 4096} {
		for _, c := range []api.Config{example(), fair()} {
			kept(t, c, every)
		}
		for want, c := range refusedConfigs() {
			if j, e := New(c, every); j != nil || e != want {
				t.Errorf("%+v %d: %d, not %d", c, every, e, want)
			}
		}
	}
	// ErrArg comes first.
	for _, every := range []int{0, -1, -2, 4097, 4098, 8192, 1<<32 + 1, least, most} {
		for _, c := range []api.Config{example(), {}, refusedConfigs()[111], refusedConfigs()[113]} {
			if j, e := New(c, every); j != nil || e != 1 {
				t.Errorf("%+v %d: %d", c, every, e)
			}
		}
	}
}

func TestP231NumberByNumber(t *testing.T) {
	for _, c := range []api.Config{example(), fair()} {
		load := snap.Save(begun(t, c))
		want := []byte{
			1,                      // a state
			0, 0, 0, 0, 0, 0, 0, 0, // no command is ahead
			0, 0, 0, 149,
		}
		want = append(want, load...)
		want = summed(want)
		j, e := New(c, 7)
		if e != 0 || len(want) != 170 || !bytes.Equal(j.Bytes(), want) {
			t.Errorf("%d %s, not %s", e, short(j.Bytes()), short(want))
		}
		if !sameState(j.Core().State(), begun(t, c).State()) {
			t.Error(short(j.Core().State()))
		}
	}
}

// Numbers that need more than one of their bytes: of a command, of a load, and the sum.
func TestP233NumberByNumber(t *testing.T) {
	j, w := kept(t, example(), 300)
	var last []byte
	for range 300 {
		_, last = j.Do(cmd(t, "tick 1"))
		w.do(cmd(t, "tick 1"))
	}
	want := summed([]byte{
		2,                         // a command
		0, 0, 0, 0, 0, 0, 1, 0x2c, // the 300th
		0, 0, 0, 6,
		't', 'i', 'c', 'k', ' ', '1',
	})
	laid := summed(append([]byte{1, 0, 0, 0, 0, 0, 0, 1, 0x2c, 0, 0, 0, 149}, snap.Save(w.x)...))
	if !bytes.Equal(last, append(want, laid...)) {
		t.Error(short(last))
	}
	alike(t, j, w)
	// A state of more than 2^16 bytes.
	j, w = kept(t, example(), 1, "account a root 1")
	for range 1100 {
		w.x.Do(cmd(t, "submit a 1 1"))
		w.x.Do(cmd(t, "cancel "+itoa(len(w.x.State().Jobs)-1)))
	}
	load := snap.Save(w.x)
	first := rec(1, 0, load)
	if n := len(load); n < 1<<16 || n > 1<<24 || !bytes.Equal(first[:13], []byte{1, 0, 0, 0, 0, 0, 0, 0, 0, 0, byte(n >> 16), byte(n >> 8), byte(n)}) {
		t.Fatal(n)
	}
	y := counts(t, first, len(first))
	_, last = y.Do(cmd(t, "tick 1"))
	w.x.Do(cmd(t, "tick 1"))
	if !bytes.Equal(last, append(lineRec(1, "tick 1"), stateRec(1, w.x)...)) || !bytes.Equal(y.Bytes(), append(first, last...)) {
		t.Error(short(last))
	}
	if j.Core().State().Now != 0 {
		t.Error("another journal is at", j.Core().State().Now)
	}
}

func itoa(n int) string {
	line, _ := verbs.Print(api.Cmd{Kind: 9, Job: n})
	return strings.TrimPrefix(line, "job ")
}

func TestP232Arg(t *testing.T) {
	j, _ := kept(t, example(), 2, script()...)
	all := j.Bytes()
	for _, every := range []int{0, -1, 4097, 8192, 1<<32 + 1, least, most} {
		for _, b := range [][]byte{nil, {}, {1}, all[:169], all[:170], all, turned(all, 0, 0)} {
			if y, n, e := Open(b, every); y != nil || n != 0 || e != 1 {
				t.Error(every, len(b), n, e)
			}
		}
	}
	for _, every := range []int{1, 2, 3, 4095, 4096} {
		if y, n, e := Open(all, every); y == nil || n != len(all) || e != 0 {
			t.Error(every, n, e)
		}
		for _, b := range [][]byte{nil, {}, {1}, all[:169], turned(all, 0, 0)} {
			if y, n, e := Open(b, every); y != nil || n != 0 || e != 230 {
				t.Error(every, len(b), n, e)
			}
		}
	}
}

func TestP232FirstRecordCut(t *testing.T) {
	j, _ := kept(t, example(), 2)
	first := j.Bytes()
	for cut := range first {
		counts(t, first[:cut], 0)
	}
	counts(t, first, 170)
	for more := 1; more < 40; more++ {
		counts(t, append(bytes.Clone(first), bytes.Repeat([]byte{byte(more)}, more)...), 170)
	}
}

// firstSpoils are beginnings that are no right first record, though (unless it's the sum that is wrong) their sums are right for what stands there.
func firstSpoils(t *testing.T) [][]byte {
	x := begun(t, example(), script()...)
	load := snap.Save(x)
	many := uint32(len(load))
	l := [][]byte{
		// A command, whatever its number.
		lineRec(0, "tick 1"), lineRec(1, "tick 1"), lineRec(1, "account a root 1"), lineRec(0, ""), rec(2, 0, load), rec(2, 1, load),
		// Another number.
		stateRec(1, x), stateRec(19, x), stateRec(-1, x), rec(1, 1<<32, load), rec(1, 1<<63, load), rec(1, 1<<56, load),
		// Neither sort.
		rec(0, 0, load), rec(3, 0, load), rec(255, 0, load), rec(128+1, 0, load), rec('1', 0, load),
		// No state.
		rec(1, 0, nil), rec(1, 0, []byte("backfill1")), rec(1, 0, load[:many-1]), rec(1, 0, append(bytes.Clone(load), 0)), rec(1, 0, bytes.Repeat([]byte{255}, 149)),
		// More bytes than there are, or fewer; and the sum of these.
		summed(bare(1, 0, many+1, load)), summed(bare(1, 0, many+8, load)), summed(bare(1, 0, many-1, load)), summed(bare(1, 0, 0, load)),
		summed(bare(1, 0, math.MaxUint32, load)), summed(bare(1, 0, 1<<31, load)), summed(bare(1, 0, many|1<<24, load)),
		summed(bare(1, 0, math.MaxUint32, nil)), summed(bare(1, 0, 8, nil)), summed(bare(1, 0, 1, nil)),
		// The sum with the lowest byte first; of the load alone; of all but the kind; none.
		binary.LittleEndian.AppendUint64(bare(1, 0, many, load), plainSum(bare(1, 0, many, load))),
		binary.BigEndian.AppendUint64(bare(1, 0, many, load), plainSum(load)),
		binary.BigEndian.AppendUint64(bare(1, 0, many, load), plainSum(bare(1, 0, many, load)[1:])),
		binary.BigEndian.AppendUint64(bare(1, 0, many, load), 0),
	}
	// States that audit refuses: the clock at -1, a usage that is too great.
	at := func(at int, n uint64) []byte {
		b := bytes.Clone(load)
		binary.BigEndian.PutUint64(b[at:], n)
		return rec(1, 0, b)
	}
	l = append(l, at(9+8*8, math.MaxUint64), at(9, 0), at(9+9*8, 99))
	for bit := range 64 {
		b := stateRec(0, x)
		l = append(l, turned(b, len(b)-8+bit/8, bit%8))
	}
	return l
}

func TestP232FirstRecordSpoilt(t *testing.T) {
	x := begun(t, example(), script()...)
	counts(t, stateRec(0, x), len(stateRec(0, x)))
	behind := slices.Concat(stateRec(0, x), lineRec(1, "tick 1"))
	for i, b := range firstSpoils(t) {
		counts(t, b, 0)
		// Nor with what would be right behind it.
		counts(t, append(bytes.Clone(b), behind...), 0)
		counts(t, append(bytes.Clone(b), lineRec(1, "tick 1")...), 0)
		counts(t, append(bytes.Clone(b), bytes.Repeat([]byte{0}, 300)...), 0)
		if t.Failed() {
			t.Fatal(i)
		}
	}
}

// The first record may be of any state that audit takes; commands are counted from there on.
func TestP232FirstStateOfAny(t *testing.T) {
	for many := range len(script()) + 1 {
		x := begun(t, example(), script()[:many]...)
		first := stateRec(0, x)
		j := counts(t, first, len(first))
		w := twinOf(x, 1)
		for _, line := range []string{"tick 1", "queue", "account z root 3", "submit z 1 2", "tick 2"} {
			tells(t, j, w, cmd(t, line))
		}
		counts(t, w.all, len(w.all))
	}
}

// at is a place in a journal: what stands ahead of it, what is right behind it, and the core there.
type at struct {
	ahead, behind []byte
	x             *core.Core
	last          int
	laid          bool // a state of this number stands ahead
}

// places are all places of a journal of the script, but that ahead of its first record.
func places(t *testing.T, every int) []at {
	t.Helper()
	_, w := kept(t, example(), every, script()...)
	x, last := begun(t, example()), 0
	var l []at
	for i, mark := range w.marks {
		kind := byte(1)
		if i > 0 {
			kind = w.all[w.marks[i-1]]
		}
		if kind == 2 {
			x.Do(cmd(t, script()[last]))
			last++
		}
		l = append(l, at{w.all[:mark], w.all[mark:], x.Clone(), last, kind == 1})
	}
	if last != len(script()) || len(l) != 1+last+last/every {
		t.Fatal(last, len(l))
	}
	return l
}

// lineSpoils are loads of commands that are none, or no change, wherever they stand in the script's journal.
func lineSpoils() []string {
	return []string{
		// verbs.Parse refuses these.
		"", " ", "tock 1", "Tick 1", " tick 1", "tick", "tick 1 ", "tick  1", "tick 1 1", "tick 01", "tick +1", "tick -1", "tick 1\n", "tick 1\x00", "tick 9223372036854775808",
		"account a.b root 1", "account " + strings.Repeat("n", 33) + " root 1", "submit a 1", "tick " + strings.Repeat("0", 251) + "1", strings.Repeat("x", 257), strings.Repeat("tick 1 ", 10000), "\xff", "ticķ 1",
		// These only look.
		"queue", "nodes", "config", "usage root", "usage a", "job 0", "job 9999",
		// The core refuses these.
		"submit root 1 1", "submit nobody 1 1", "submit a 5 1", "submit a 0 1", "submit a 1 11", "submit a 1 0", "cancel 9999", "complete 9999", "tick 0", "tick 257", "tick 9223372036854775807",
		"account root root 1", "account z nobody 1", "account z root 0", "account z root 4097", "shares nobody 1", "shares root 1", "shares a 0", "move nobody root", "move root root", "close nobody", "close root",
	}
}

// spoils are records that are not right at a place, by what is wrong with them; their sums are right, but where that is what is wrong.
func spoils(t *testing.T, p at) map[error][][]byte {
	t.Helper()
	l := map[error][][]byte{}
	add := func(why error, records ...[]byte) { l[why] = append(l[why], records...) }
	next, tick := p.last+1, lineRec(p.last+1, "tick 1")
	for cut := 1; cut < len(tick); cut++ {
		add(errShort, tick[:cut])
	}
	says := func(n uint32) []byte { return summed(bare(2, uint64(next), n, []byte("tick 1"))) }
	// (With more behind them some of these are whole; but then their sum is another one.)
	add(errShort, says(7), says(14), says(1<<31), says(math.MaxUint32))
	add(errSum, says(5), says(0))
	for i := range 8 {
		add(errSum, turned(tick, len(tick)-8+i, (i+p.last)%8))
	}
	load, now := []byte("tick 1"), snap.Save(p.x)
	for _, kind := range []byte{0, 3, 4, 128, 129, 130, 254, 255, '1', '2'} {
		add(errKind, rec(kind, uint64(next), load), rec(kind, uint64(p.last), now), rec(kind, 0, nil))
	}
	for _, n := range []uint64{uint64(p.last), uint64(next + 1), uint64(next + 256), 1<<63 + uint64(next), 1<<32 + uint64(next), math.MaxUint64, -uint64(next)} {
		add(errNumber, rec(2, n, load))
	}
	for _, n := range []uint64{uint64(next), uint64(next + 1), uint64(p.last) - 1, 1<<63 + uint64(p.last), 1<<32 + uint64(p.last), math.MaxUint64} {
		add(errNumber, rec(1, n, now))
	}
	if p.laid {
		add(errNumber, rec(1, uint64(p.last), now))
	} else {
		other := p.x.Clone()
		other.Do(cmd(t, "tick 1"))
		add(errState, rec(1, uint64(p.last), nil), rec(1, uint64(p.last), now[:len(now)-1]), rec(1, uint64(p.last), append(bytes.Clone(now), 0)), rec(1, uint64(p.last), load))
		add(errState, stateRec(p.last, other), stateRec(p.last, begun(t, example())), stateRec(p.last, begun(t, fair())))
		for place := p.last; place < len(now); place += 41 {
			add(errState, rec(1, uint64(p.last), turned(now, place, place%8)))
		}
	}
	for _, line := range lineSpoils() {
		why := errChange
		if _, e := verbs.Parse(line); e != 0 {
			why = errLine
		}
		add(why, lineRec(next, line))
	}
	add(errLine, rec(2, uint64(next), now))
	return l
}

// Each way that 'Right' names, at each place; and what stands behind counts no more, even where it is right by itself.
func TestP232LaterRecordsSpoilt(t *testing.T) {
	tick := cmd(t, "tick 1")
	for _, every := range []int{1, 6} {
		for _, p := range places(t, every) {
			all := spoils(t, p)
			if len(all) != 6 && len(all) != 7 || (len(all[errState]) > 0) == p.laid {
				t.Fatal(len(all), p.laid)
			}
			for why, l := range all {
				for i, b := range l {
					with := slices.Concat(p.ahead, b)
					if i%8 == p.last%8 {
						counts(t, with, len(p.ahead))
					}
					var f *fault
					if err := newStory().read(with); !errors.As(err, &f) || !errors.Is(err, why) || f.at != len(p.ahead) {
						t.Fatalf("%s: %v, not %v", short(b), err, why)
					}
					if n := opened(t, slices.Concat(with, p.behind)); n != len(p.ahead) {
						t.Fatalf("%s: %d, not %d", short(b), n, len(p.ahead))
					}
					if n := opened(t, slices.Concat(with, lineRec(p.last+1, "tick 1"), lineRec(p.last+2, "tick 1"))); n != len(p.ahead) {
						t.Fatalf("%s: %d, not %d", short(b), n, len(p.ahead))
					}
				}
			}
			// Without it they do count.
			y := p.x.Clone()
			y.Do(tick)
			counts(t, slices.Concat(p.ahead, p.behind), len(p.ahead)+len(p.behind))
			right := slices.Concat(p.ahead, lineRec(p.last+1, "tick 1"), stateRec(p.last+1, y), lineRec(p.last+2, "tick 1"))
			counts(t, right, len(right))
		}
	}
}

// opened tells how many bytes count.
func opened(t *testing.T, b []byte) int {
	t.Helper()
	_, n, e := Open(b, 1)
	if e != 0 {
		t.Fatal(short(b), e)
	}
	return n
}

// Commands that are refused where they stand, and done elsewhere: what is a change hangs on the core.
func TestP232RefusedWhereTheyStand(t *testing.T) {
	j, _ := kept(t, example(), 4096, "account a root 1", "submit a 4 5", "submit a 1 1", "tick 1", "cancel 1")
	ahead := j.Bytes()
	for _, line := range []string{"cancel 1", "complete 1", "account a root 1", "complete 2", "move a a"} {
		counts(t, append(bytes.Clone(ahead), lineRec(6, line)...), len(ahead))
	}
	j.Do(cmd(t, "close a"))
	ahead = j.Bytes()
	for _, line := range []string{"submit a 1 1", "submit a 4 5"} {
		counts(t, append(bytes.Clone(ahead), lineRec(7, line)...), len(ahead))
	}
	for _, line := range []string{"complete 0", "cancel 0", "tick 5", "account b a 1", "close a", "shares a 1", "move a root"} {
		b := append(bytes.Clone(ahead), lineRec(7, line)...)
		counts(t, b, len(b))
	}
	// A queue that is full.
	c := example()
	c.Queue = 1
	j, _ = kept(t, c, 4096, "account a root 1", "submit a 1 1")
	counts(t, append(j.Bytes(), lineRec(3, "submit a 1 1")...), len(j.Bytes()))
	// The clock's end.
	s := begun(t, example(), "account a root 1").State()
	s.Now = 1<<40 - 1
	x, e := core.Load(s)
	if e != 0 {
		t.Fatal(e)
	}
	first := stateRec(0, x)
	for _, line := range []string{"tick 2", "submit a 1 1"} {
		counts(t, append(bytes.Clone(first), lineRec(1, line)...), len(first))
	}
	b := slices.Concat(first, lineRec(1, "tick 1"))
	counts(t, append(bytes.Clone(b), lineRec(2, "tick 1")...), len(b))
	// As many jobs as may be.
	s = begun(t, example(), "account a root 1").State()
	for range 4095 {
		s.Jobs = append(s.Jobs, api.Job{Account: 1, Nodes: 1, Limit: 1, State: 6})
	}
	x, e = core.Load(s)
	if e != 0 {
		t.Fatal(e)
	}
	b = append(stateRec(0, x), lineRec(1, "submit a 1 1")...)
	counts(t, append(bytes.Clone(b), lineRec(2, "submit a 1 1")...), len(b))
	j, _, _ = Open(b, 1)
	if a, told := j.Do(cmd(t, "submit a 1 1")); a.Code != 188 || len(told) != 0 || !bytes.Equal(j.Bytes(), b) {
		t.Error(a.Code, short(told))
	}
	// Changes by which nothing becomes another.
	x = begun(t, example(), "account a root 1")
	b = stateRec(0, x)
	for n, line := range []string{"shares a 1", "move a root", "close a", "close a", "shares a 1"} {
		b = append(b, lineRec(n+1, line)...)
	}
	counts(t, b, len(b))
}

// States may stand anywhere, once each: what is right does not hang on any every.
func TestP232StatesAnywhere(t *testing.T) {
	for mask := range 1 << 5 {
		x := begun(t, example())
		b := stateRec(0, x)
		for n, line := range script()[:5] {
			b = append(b, lineRec(n+1, line)...)
			x.Do(cmd(t, line))
			if mask>>n&1 == 1 {
				b = append(b, stateRec(n+1, x)...)
			}
		}
		j := counts(t, b, len(b))
		w := twinOf(begun(t, example()), 2)
		w.x, w.count, w.all = x.Clone(), 5, b
		j, _, _ = Open(b, 2)
		tells(t, j, w, cmd(t, "tick 1"))
		tells(t, j, w, cmd(t, "tick 5"))
	}
}

func TestP233EachKind(t *testing.T) {
	for _, every := range []int{1, 2, 3, 5, 18, 19, 20, 4096} {
		j, w := kept(t, example(), every, script()...)
		if w.count != len(script()) || len(w.marks) != 1+w.count+w.count/every {
			t.Error(every, w.count, len(w.marks))
		}
		counts(t, j.Bytes(), len(w.all))
	}
}

func TestP233RefusedAndLooks(t *testing.T) {
	cmds := []api.Cmd{{}, {Kind: 14}, {Kind: -1}, {Kind: least}, {Kind: most}, {Kind: 4, Ticks: 1, Job: 1}, {Kind: 4, Ticks: -1}, {Kind: 1, Name: "a b", Nodes: 1, Limit: 1}, {Kind: 10, Name: "a"}, {Kind: 5, Name: "\xff", Parent: "root", Shares: 1}}
	for _, line := range lineSpoils() {
		if c, e := verbs.Parse(line); e == 0 {
			cmds = append(cmds, c)
		}
	}
	cmds = append(cmds, cmd(t, "complete 1"), cmd(t, "cancel 4"), cmd(t, "submit b 1 1"), cmd(t, "account a root 1"), cmd(t, "move a a"))
	codes := map[api.Errno]int{}
	for _, every := range []int{1, 3, 19} {
		j, w := kept(t, example(), every, script()...)
		was := len(w.all)
		for _, c := range cmds {
			codes[tells(t, j, w, c).Code]++
		}
		if len(w.all) != was || w.count != 19 {
			t.Fatal(len(w.all), was, w.count)
		}
		// They count for nothing: the next change is the 20th.
		_, b := j.Do(cmd(t, "tick 1"))
		if !bytes.Equal(b[:27], lineRec(20, "tick 1")) || (len(b) > 27) != (20%every == 0) {
			t.Error(every, short(b))
		}
	}
	for _, e := range []api.Errno{0, 61, 62, 63, 66, 67, 84, 181, 182, 183, 184, 185, 186, 189} {
		if codes[e] == 0 {
			t.Error(e, codes)
		}
	}
}

func TestP233GreatestEvery(t *testing.T) {
	for _, every := range []int{4095, 4096} {
		j, e := New(example(), every)
		if e != 0 {
			t.Fatal(e)
		}
		for n := 1; n <= 8200; n++ {
			_, b := j.Do(cmd(t, "tick 1"))
			if (len(b) > 27) != (n%every == 0) || b[0] != 2 || binary.BigEndian.Uint64(b[1:]) != uint64(n) {
				t.Fatal(every, n, short(b))
			}
			if len(b) > 27 && (b[27] != 1 || binary.BigEndian.Uint64(b[28:]) != uint64(n)) {
				t.Fatal(every, n, short(b))
			}
		}
		counts(t, j.Bytes(), 170+8200*27+2*170)
	}
}

func TestP234CoreIsAClone(t *testing.T) {
	j, w := kept(t, example(), 3, script()...)
	x := j.Core()
	for _, line := range []string{"tick 1", "submit a 1 1", "account c root 1", "close a", "tick 100"} {
		if x.Do(cmd(t, line)).Code != 0 {
			t.Fatal(line)
		}
		alike(t, j, w)
	}
	// Nor does it go on with the journal.
	x = j.Core()
	was := x.State()
	tells(t, j, w, cmd(t, "tick 1"))
	if !sameState(x.State(), was) {
		t.Error(short(x.State()))
	}
	// One that Open made, too.
	y := counts(t, w.all, len(w.all))
	y.Core().Do(cmd(t, "tick 5"))
	alike(t, y, w)
}

func TestP234Clones(t *testing.T) {
	for _, every := range []int{1, 2, 4096} {
		for many := range len(script()) + 1 {
			j, w := kept(t, example(), every, script()[:many]...)
			lines := append(slices.Clone(script()[many:]), "tick 1", "account d root 1", "tick 3")
			// By turns: memory that they shared would be written over.
			k := j.Clone()
			v := &twin{w.x.Clone(), every, w.count, w.all, w.marks}
			told := [][]byte{}
			for _, line := range lines {
				tells(t, j, w, cmd(t, line))
				told = append(told, j.Bytes())
				tells(t, k, v, cmd(t, "account e"+itoa(len(told))+" root 2"))
				tells(t, k, v, cmd(t, "tick 1"))
				alike(t, j, w)
			}
			l := k.Clone()
			k.Do(cmd(t, "tick 7"))
			alike(t, l, v)
			for _, b := range told {
				if !bytes.Equal(b, w.all[:len(b)]) {
					t.Fatal(short(b))
				}
			}
		}
	}
}

// Open's journals, too, and their clones, go as one that was never cut.
func TestP234OpenedGoesOn(t *testing.T) {
	for _, every := range []int{1, 2, 3, 4096} {
		_, w := kept(t, example(), every, script()...)
		for many := range len(script()) + 1 {
			_, ahead := kept(t, example(), every, script()[:many]...)
			b := append(bytes.Clone(ahead.all), "backfill"...)
			j, n, e := Open(b, every)
			if e != 0 || n != len(ahead.all) {
				t.Fatal(n, e)
			}
			k := j.Clone()
			for i := range b {
				b[i] = 0xa5
			}
			for _, line := range script()[many:] {
				j.Do(cmd(t, line))
				tells(t, k, ahead, cmd(t, line))
			}
			alike(t, j, w)
			alike(t, k, w)
		}
	}
}

func TestP235EveryCut(t *testing.T) {
	for _, every := range []int{1, 4, 4096} {
		l := places(t, every)
		all := slices.Concat(l[0].ahead, l[0].behind)
		for i, p := range l {
			end := len(all) + 1
			if i+1 < len(l) {
				end = len(l[i+1].ahead)
			}
			for cut := len(p.ahead); cut < end; cut++ {
				j, n, e := Open(all[:cut], 2)
				if e != 0 || n != len(p.ahead) || !bytes.Equal(j.Bytes(), p.ahead) || !bytes.Equal(snap.Save(j.Core()), snap.Save(p.x)) {
					t.Fatal(cut, n, e)
				}
			}
			j := counts(t, all[:end-1], len(p.ahead))
			x := p.x.Clone()
			for _, line := range append(slices.Clone(script()[p.last:]), "queue", "nodes", "usage a", "tick 9", "queue") {
				a, _ := j.Do(cmd(t, line))
				if b := x.Do(cmd(t, line)); !sameAnswer(a, b) {
					t.Fatalf("%s: %+v, not %+v", line, a, b)
				}
			}
		}
	}
}

// Every bit of short journals: what ends ahead of it counts still, it and what is behind it no more.
func TestP236EveryBit(t *testing.T) {
	for _, every := range []int{1, 2, 4096} {
		_, w := kept(t, example(), every, script()[:6]...)
		for place := range w.all {
			ahead := 0
			for _, mark := range w.marks {
				if mark <= place {
					ahead = mark
				}
			}
			for bit := range 8 {
				b := turned(w.all, place, bit)
				if place%5 == 0 && bit == place%8 {
					counts(t, b, ahead)
				}
				j, n, e := Open(b, 1+place%5)
				if n != ahead || (e == 0) != (ahead > 0) || e != 0 && (e != 230 || j != nil) || e == 0 && !bytes.Equal(j.Bytes(), w.all[:ahead]) {
					t.Fatal(place, bit, n, e, ahead)
				}
			}
		}
	}
}

func TestP237UnlikeEvery(t *testing.T) {
	everys := []int{1, 2, 3, 7, 4096}
	var js []*Journal
	for _, every := range everys {
		j, _ := kept(t, example(), every)
		js = append(js, j)
	}
	for n, line := range script() {
		want, first := js[0].Do(cmd(t, line))
		many := 13 + len(line) + 8
		for i, j := range js[1:] {
			a, b := j.Do(cmd(t, line))
			if !sameAnswer(a, want) || !bytes.Equal(b[:many], first[:many]) || (len(b) > many) != ((n+1)%everys[i+1] == 0) {
				t.Fatal(line, everys[i+1], short(b))
			}
		}
		if len(first) == many {
			t.Fatal("no state")
		}
	}
}

func TestR3NoBytes(t *testing.T) {
	for _, b := range [][]byte{nil, {}} {
		if j, n, e := Open(b, 1); j != nil || n != 0 || e != 230 {
			t.Error(n, e)
		}
	}
	j, _ := kept(t, example(), 1)
	if _, b := j.Do(cmd(t, "queue")); len(b) != 0 {
		t.Error(b)
	}
}

// scribble writes over bytes, and over the spare room behind them.
func scribble(b []byte) {
	for i := range b[:cap(b)] {
		b[:cap(b)][i] = 0x5a
	}
}

// What was handed in or told may be written over, its spare room too: nobody sees it.
func TestR4Memory(t *testing.T) {
	for _, every := range []int{1, 2, 4096} {
		w := twinOf(begun(t, example()), every)
		j, _ := New(example(), every)
		given := append(bytes.Clone(w.all), "spare"...)
		k, n, e := Open(given[:170], every)
		if e != 0 || n != 170 || string(given[170:]) != "spare" {
			t.Fatal(n, e, given)
		}
		scribble(given)
		scribble(j.Bytes())
		for _, line := range script() {
			c := cmd(t, line)
			kept, also := j.Bytes(), k.Bytes()
			want := w.all
			a, b := j.Do(c)
			_, d := k.Do(c)
			_, told := w.do(c)
			if !bytes.Equal(b, told) || !bytes.Equal(d, told) {
				t.Fatal(line, short(b), short(d))
			}
			scribble(d)
			if !bytes.Equal(b, told) || !bytes.Equal(kept, want) || !bytes.Equal(also, want) {
				t.Fatal(line, short(b))
			}
			scribble(b)
			for i := range a.Events {
				clear(a.Events[i].List[:cap(a.Events[i].List)])
			}
			clear(a.Events[:cap(a.Events)])
			scribble(j.Bytes())
			scribble(kept)
			alike(t, j, w)
			alike(t, k, w)
		}
		// The room behind bytes that are handed in is neither read nor written.
		b := append(bytes.Clone(w.all), lineRec(w.count+1, "tick 1")...)
		was := bytes.Clone(b)
		k, n, e = Open(b[:len(w.all)], every)
		k.Do(cmd(t, "account q root 1"))
		if e != 0 || n != len(w.all) || !bytes.Equal(b, was) {
			t.Fatal(n, e)
		}
	}
}

// One answer (R5), whoever else asks at the same time.
func TestR5SideBySide(t *testing.T) {
	_, w := kept(t, example(), 3, script()...)
	all := w.all
	var wait sync.WaitGroup
	for range 4 {
		wait.Go(func() {
			for cut := 170; cut < len(all); cut += 97 {
				j, n, e := Open(all[:cut], 2)
				k, m, f := Open(all[:cut], 2)
				a, b := j.Do(api.Cmd{Kind: 4, Ticks: 3})
				c, d := k.Do(api.Cmd{Kind: 4, Ticks: 3})
				if e != f || n != m || !sameAnswer(a, c) || !bytes.Equal(b, d) || !bytes.Equal(j.Bytes(), k.Bytes()) {
					t.Error(cut, n, m, e, f)
				}
			}
		})
	}
	wait.Wait()
}

// What is wrong is told in words for who reads the program's errors, with the place where it is.
func TestFaultInWords(t *testing.T) {
	_, w := kept(t, example(), 4096, script()[:3]...)
	err := newStory().read(w.all[:len(w.all)-1])
	if err == nil || err.Error() != "journal: at the byte "+itoa(w.marks[2])+": bytes are missing" || !errors.Is(err, errShort) {
		t.Error(err)
	}
	if err := newStory().read(w.all); err != nil {
		t.Error(err)
	}
}
