package journal

import (
	"bytes"
	"encoding/binary"
	"fmt"
	"math/bits"
	"reflect"
	"slices"
	"strings"
	"testing"

	"backfill/api"
	"backfill/core"
	"backfill/snap"
	"backfill/verbs"
)

// plainSum is the sum as the chapter tells it: of a product that is not cut short the low half is taken.
func plainSum(b []byte) uint64 {
	sum := uint64(14695981039346656037)
	for _, one := range b {
		_, sum = bits.Mul64(sum^uint64(one), 1099511628211)
	}
	return sum
}

// summed has the sum of bytes behind them.
func summed(b []byte) []byte { return binary.BigEndian.AppendUint64(bytes.Clone(b), plainSum(b)) }

// bare are a record's bytes ahead of its sum, which may say of its load what is not so.
func bare(kind byte, number uint64, says uint32, load []byte) []byte {
	b := binary.BigEndian.AppendUint64([]byte{kind}, number)
	return append(binary.BigEndian.AppendUint32(b, says), load...)
}

// rec is a record by the chapter's words, whatever it is; its sum is right.
func rec(kind byte, number uint64, load []byte) []byte {
	return summed(bare(kind, number, uint32(len(load)), load))
}

func stateRec(number int, x *core.Core) []byte { return rec(1, uint64(number), snap.Save(x)) }

func lineRec(number int, line string) []byte { return rec(2, uint64(number), []byte(line)) }

// isChange tells whether a core does a line, and the line is one of those that may change it.
func isChange(x *core.Core, line string) bool {
	c, e := verbs.Parse(line)
	word, _, _ := strings.Cut(line, " ")
	able := slices.Contains([]string{"submit", "cancel", "complete", "tick", "account", "shares", "move", "close"}, word)
	return e == 0 && able && x.Clone().Do(c).Code == 0
}

// plainly goes through records by the chapter's section 'The bytes': the core that the right ones make (nil, if not even the first one is right), how many bytes and how many records these are.
func plainly(b []byte) (x *core.Core, right, records int) {
	var commands, states []uint64
	for {
		rest := b[right:]
		if uint64(len(rest)) < 1+8+4+8 {
			return x, right, records
		}
		kind, number, says := rest[0], binary.BigEndian.Uint64(rest[1:]), uint64(binary.BigEndian.Uint32(rest[9:]))
		if uint64(len(rest)) < 1+8+4+says+8 {
			return x, right, records
		}
		load, sum := rest[13:13+says], binary.BigEndian.Uint64(rest[13+says:])
		if plainSum(rest[:13+says]) != sum {
			return x, right, records
		}
		last := uint64(len(commands))
		switch {
		case records == 0 && kind == 1 && number == 0:
			first, e := snap.Restore(load)
			if e != 0 {
				return nil, 0, 0
			}
			x, states = first, append(states, 0)
		case records > 0 && kind == 1 && number == last && !slices.Contains(states, number) && bytes.Equal(load, snap.Save(x)):
			states = append(states, number)
		case records > 0 && kind == 2 && number == last+1 && isChange(x, string(load)):
			c, _ := verbs.Parse(string(load))
			x.Do(c)
			commands = append(commands, number)
		default:
			return x, right, records
		}
		right += 13 + int(says) + 8
		records++
	}
}

// twin is a journal as the chapter tells it.
type twin struct {
	x            *core.Core
	every, count int
	all          []byte
	marks        []int // where each record ends
}

func twinOf(x *core.Core, every int) *twin {
	b := stateRec(0, x)
	return &twin{x: x.Clone(), every: every, all: b, marks: []int{len(b)}}
}

func (w *twin) do(c api.Cmd) (api.Answer, []byte) {
	line, e := verbs.Print(c)
	change := e == 0 && isChange(w.x, line)
	a := w.x.Do(c)
	if !change {
		return a, nil
	}
	w.count++
	b := lineRec(w.count, line)
	w.marks = append(w.marks, len(w.all)+len(b))
	if w.count%w.every == 0 {
		b = append(b, stateRec(w.count, w.x)...)
		w.marks = append(w.marks, len(w.all)+len(b))
	}
	w.all = slices.Concat(w.all, b)
	return a, b
}

// tells lets a journal and its twin do a command: they answer alike, and stand alike behind it.
func tells(t *testing.T, j *Journal, w *twin, c api.Cmd) api.Answer {
	t.Helper()
	a, b := j.Do(c)
	wantA, wantB := w.do(c)
	if !sameAnswer(a, wantA) || !bytes.Equal(b, wantB) {
		t.Fatalf("%+v: %s %s, not %s %s", c, short(a), short(b), short(wantA), short(wantB))
	}
	alike(t, j, w)
	return a
}

// alike holds what a journal tells of itself against its twin (P23.4).
func alike(t *testing.T, j *Journal, w *twin) {
	t.Helper()
	if b := j.Bytes(); !bytes.Equal(b, w.all) {
		t.Fatalf("%s, not %s", short(b), short(w.all))
	}
	if s := j.Core().State(); !sameState(s, w.x.State()) {
		t.Fatalf("%s, not %s", short(s), short(w.x.State()))
	}
}

// opens holds Open against the chapter's words, taken plainly; and what it makes, where it does, against P23.6.
func opens(t *testing.T, b []byte, every int) (*Journal, int) {
	t.Helper()
	was := bytes.Clone(b)
	j, n, e := Open(b, every)
	x, right, _ := plainly(b)
	if !bytes.Equal(b, was) {
		t.Fatalf("%s has become %s", short(was), short(b))
	}
	if x == nil {
		if j != nil || n != 0 || e != 230 {
			t.Fatalf("%s: %v %d %d, though it begins with no right record", short(b), j != nil, n, e)
		}
		return nil, 0
	}
	if j == nil || e != 0 || n != right || !bytes.Equal(j.Bytes(), b[:right]) || !sameState(j.Core().State(), x.State()) {
		t.Fatalf("%s: %v %d %d, but %d bytes are right", short(b), j != nil, n, e, right)
	}
	again, m, e := Open(j.Bytes(), 1+every%4096)
	if e != 0 || m != n || !bytes.Equal(again.Bytes(), b[:n]) || !sameState(again.Core().State(), x.State()) {
		t.Fatalf("%s: %d %d, but once more %d", short(b), e, n, m)
	}
	return j, n
}

// counts asks that just the first so many bytes count: 0, if not even the first record is right.
func counts(t *testing.T, b []byte, want int) *Journal {
	t.Helper()
	j, n := opens(t, b, 1)
	if n != want {
		t.Fatalf("%s: %d bytes count, not %d", short(b), n, want)
	}
	return j
}

// short is what a failed test tells of something, as far as it can be read: of bytes by sixteens.
func short(x any) string {
	text := fmt.Sprintf("%+v", x)
	if b, ok := x.([]byte); ok {
		text = fmt.Sprintf("%d bytes %x", len(b), b)
	}
	return text[:min(len(text), 1500)]
}

// orNil makes no difference between a list without anything and none (R3).
func orNil[T any](l []T) []T {
	if len(l) == 0 {
		return nil
	}
	return l
}

func sameState(a, b api.State) bool {
	for _, s := range []*api.State{&a, &b} {
		s.Accounts, s.Jobs = orNil(s.Accounts), slices.Clone(orNil(s.Jobs))
		for n := range s.Jobs {
			s.Jobs[n].Set = orNil(s.Jobs[n].Set)
		}
	}
	return reflect.DeepEqual(a, b)
}

func sameAnswer(a, b api.Answer) bool {
	for _, x := range []*api.Answer{&a, &b} {
		x.Events, x.Ranks, x.Job.Set = slices.Clone(orNil(x.Events)), orNil(x.Ranks), orNil(x.Job.Set)
		for i := range x.Events {
			x.Events[i].List = orNil(x.Events[i].List)
		}
	}
	return reflect.DeepEqual(a, b)
}
