package snap

import (
	"encoding/binary"
	"fmt"
	"reflect"
	"slices"

	"backfill/api"
	"backfill/audit"
)

// sheet is the form, written number by number; it remembers where the numbers of each name stand.
type sheet struct {
	b  []byte
	at map[string][]int
}

func (f *sheet) number(name string, n uint64) {
	f.at[name] = append(f.at[name], len(f.b))
	f.b = binary.BigEndian.AppendUint64(f.b, n)
}

func (f *sheet) numbers(name string, l ...int) {
	for _, n := range l {
		f.number(name, uint64(n))
	}
}

// sheetOf writes any state, whatever audit says of it.
func sheetOf(s api.State) *sheet {
	f := &sheet{[]byte("backfill1"), map[string][]int{}}
	c := s.Config
	f.numbers("config", c.Nodes, c.Queue, c.Limit, c.Age, c.Fair, c.Size, c.Period, c.Half)
	f.numbers("now", s.Now)
	f.numbers("holder", s.Holder)
	f.numbers("accounts", len(s.Accounts))
	for _, a := range s.Accounts {
		f.numbers("name", len(a.Name))
		f.b = append(f.b, a.Name...)
		f.numbers("parent", a.Parent)
		f.numbers("shares", a.Shares)
		f.numbers("closed", map[bool]int{true: 1}[a.Closed])
		f.number("usage", a.Usage)
	}
	f.numbers("jobs", len(s.Jobs))
	for _, j := range s.Jobs {
		f.numbers("job", j.Account, j.Nodes, j.Limit, j.Submit, j.State, j.Start, j.End)
		f.numbers("set", len(j.Set))
		f.numbers("node", j.Set...)
	}
	return f
}

func bytesOf(s api.State) []byte { return sheetOf(s).b }

// plainRead takes what the form says from bytes, one thing behind the other, till they are too few.
func plainRead(b []byte) (s api.State, ok bool) {
	defer func() {
		if thrown := recover(); thrown != nil {
			if thrown != "no form" {
				panic(thrown)
			}
			s, ok = api.State{}, false
		}
	}()
	need := func(so bool) {
		if !so {
			panic("no form")
		}
	}
	take := func(many uint64) []byte {
		need(many <= uint64(len(b)))
		out := b[:many]
		b = b[many:]
		return out
	}
	word := func() uint64 { return binary.BigEndian.Uint64(take(8)) }
	fill := func(places ...*int) {
		for _, place := range places {
			*place = int(word())
		}
	}
	need(string(take(9)) == "backfill1")
	c := &s.Config
	fill(&c.Nodes, &c.Queue, &c.Limit, &c.Age, &c.Fair, &c.Size, &c.Period, &c.Half, &s.Now, &s.Holder)
	for range word() {
		a := api.Account{Name: string(take(word()))}
		fill(&a.Parent, &a.Shares)
		closed := word()
		need(closed < 2)
		a.Closed, a.Usage = closed == 1, word()
		s.Accounts = append(s.Accounts, a)
	}
	for range word() {
		j := api.Job{}
		fill(&j.Account, &j.Nodes, &j.Limit, &j.Submit, &j.State, &j.Start, &j.End)
		for range word() {
			j.Set = append(j.Set, int(word()))
		}
		s.Jobs = append(s.Jobs, j)
	}
	need(len(b) == 0)
	return s, true
}

// plainGet is P19.2.
func plainGet(b []byte) (api.State, api.Errno) {
	s, ok := plainRead(b)
	if !ok {
		return api.State{}, 190
	}
	if audit.Check(s) != 0 {
		return api.State{}, 191
	}
	return s, 0
}

// short is what a failed test tells of something, as far as it can be read: of bytes by sixteens.
func short(x any) string {
	text := fmt.Sprintf("%+v", x)
	if b, ok := x.([]byte); ok {
		text = fmt.Sprintf("%d bytes %x", len(b), b)
	}
	return text[:min(len(text), 1500)]
}

func deepCopy(s api.State) api.State {
	s.Accounts, s.Jobs = slices.Clone(s.Accounts), slices.Clone(s.Jobs)
	for n := range s.Jobs {
		s.Jobs[n].Set = slices.Clone(s.Jobs[n].Set)
	}
	return s
}

// orNil makes no difference between a list without anything and none (R3).
func orNil[T any](l []T) []T {
	if len(l) == 0 {
		return nil
	}
	return l
}

func sameState(a, b api.State) bool {
	for _, s := range []*api.State{&a, &b} {
		*s = deepCopy(*s)
		s.Accounts, s.Jobs = orNil(s.Accounts), orNil(s.Jobs)
		for n := range s.Jobs {
			s.Jobs[n].Set = orNil(s.Jobs[n].Set)
		}
	}
	return reflect.DeepEqual(a, b)
}

func sameAnswer(a, b api.Answer) bool {
	for _, x := range []*api.Answer{&a, &b} {
		x.Events, x.Ranks, x.Job.Set = slices.Clone(orNil(x.Events)), orNil(x.Ranks), orNil(x.Job.Set)
		for i := range x.Events {
			x.Events[i].List = orNil(x.Events[i].List)
		}
	}
	return reflect.DeepEqual(a, b)
}
