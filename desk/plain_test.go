package desk

import (
	"bytes"
	"encoding/binary"
	"fmt"
	"reflect"
	"slices"
	"strings"
	"testing"

	"backfill/answers"
	"backfill/api"
	"backfill/audit"
	"backfill/core"
	"backfill/snap"
	"backfill/verbs"
)

// plain does what the chapter says, word by word, by a core that is asked the same beside the desk; it keeps all events that there ever were, and the limits stand here as numbers.
type plain struct {
	t      *testing.T
	x      *core.Core
	events []api.Event
}

func plainNew(t *testing.T, c api.Config) *plain {
	t.Helper()
	x, e := core.New(c)
	if e != 0 {
		t.Fatal(c, e)
	}
	return &plain{t: t, x: x}
}

func plainOf(t *testing.T, s api.State) *plain {
	t.Helper()
	x, e := core.Load(s)
	if e != 0 {
		t.Fatal(short(s), e)
	}
	return &plain{t: t, x: x}
}

func (p *plain) clone() *plain { return &plain{p.t, p.x.Clone(), slices.Clip(p.events)} }

// line is P20.2.
func (p *plain) line(s string) string {
	p.t.Helper()
	at := 0
	for at < len(s) && s[at] == 32 {
		at++
	}
	if at == len(s) || s[at] == '#' {
		return ""
	}
	c, e := verbs.Parse(s)
	if e != 0 {
		return fmt.Sprintf("error %d\n", int(e))
	}
	a := p.x.Do(c)
	p.events = append(p.events, a.Events...)
	text, e := answers.Print(c.Kind, a)
	if e != 0 || text == "" {
		p.t.Fatalf("%q: %+v can't be written", s, a)
	}
	return text
}

// plainLines are a text's lines, byte by byte.
func plainLines(text string) []string {
	var l []string
	from := 0
	for i := range len(text) {
		if text[i] == 10 {
			l = append(l, text[from:i])
			from = i + 1
		}
	}
	if from < len(text) {
		l = append(l, text[from:])
	}
	return l
}

// run is P20.3.
func (p *plain) run(text string) string {
	p.t.Helper()
	lines := plainLines(text)
	if len(text) > 20000 || len(lines) > 300 {
		return "error 80\n"
	}
	told := ""
	for _, line := range lines {
		told += p.line(line)
	}
	return told
}

// sizeOf is how many the events and the numbers in their Lists are.
func sizeOf(events []api.Event) int {
	size := 0
	for _, e := range events {
		size += 1 + len(e.List)
	}
	return size
}

// trace is P20.4.
func (p *plain) trace() []api.Event {
	many, size := 0, 0
	for _, e := range p.events {
		size += 1 + len(e.List)
		if size > 1048576 {
			break
		}
		many++
	}
	return p.events[:many]
}

// agrees asks a desk and the chapter's words alike, and holds all that can be asked of both against each other.
func agrees(t *testing.T, d *Desk, p *plain, line string) string {
	t.Helper()
	before := d.Save()
	told, want := d.Line(line), p.line(line)
	if told != want {
		t.Fatalf("%q: %q, not %q", line, told, want)
	}
	alike(t, d, p)
	if audit.Check(d.State()) != 0 {
		t.Fatalf("%q: audit tells %d of %s", line, audit.Check(d.State()), short(d.State()))
	}
	// P20.8 (W7); likewise of what is no command.
	if (told == "" || strings.HasPrefix(told, "error ")) && !bytes.Equal(d.Save(), before) {
		t.Fatalf("%q is answered with %q, and has changed something", line, told)
	}
	return told
}

// alike holds a desk's Save, State and Trace against the chapter's words.
func alike(t *testing.T, d *Desk, p *plain) {
	t.Helper()
	if !bytes.Equal(d.Save(), snap.Save(p.x)) || !sameState(d.State(), p.x.State()) {
		t.Fatalf("%s, not %s", short(d.State()), short(p.x.State()))
	}
	if l := d.Trace(); !sameEvents(l, p.trace()) {
		t.Fatalf("%s, not %s", short(l), short(p.trace()))
	}
}

// bytesOf are any state's, whatever audit says of it: by the form of chapter 19.
func bytesOf(s api.State) []byte {
	b := []byte("backfill1")
	put := func(numbers ...int) {
		for _, n := range numbers {
			b = binary.BigEndian.AppendUint64(b, uint64(n))
		}
	}
	c := s.Config
	put(c.Nodes, c.Queue, c.Limit, c.Age, c.Fair, c.Size, c.Period, c.Half, s.Now, s.Holder, len(s.Accounts))
	for _, a := range s.Accounts {
		put(len(a.Name))
		b = append(b, a.Name...)
		put(a.Parent, a.Shares, map[bool]int{true: 1}[a.Closed], int(a.Usage))
	}
	put(len(s.Jobs))
	for _, j := range s.Jobs {
		put(j.Account, j.Nodes, j.Limit, j.Submit, j.State, j.Start, j.End, len(j.Set))
		put(j.Set...)
	}
	return b
}

// short is what a failed test tells of something, as far as it can be read.
func short(x any) string {
	text := fmt.Sprintf("%+v", x)
	return text[:min(len(text), 400)]
}

func deepCopy(s api.State) api.State {
	s.Accounts, s.Jobs = slices.Clone(s.Accounts), slices.Clone(s.Jobs)
	for n := range s.Jobs {
		s.Jobs[n].Set = slices.Clone(s.Jobs[n].Set)
	}
	return s
}

func copiesOf(events []api.Event) []api.Event {
	l := slices.Clone(events)
	for i := range l {
		l[i].List = slices.Clone(l[i].List)
	}
	return l
}

// orNil makes no difference between a list without anything and none (R3).
func orNil[T any](l []T) []T {
	if len(l) == 0 {
		return nil
	}
	return l
}

func sameState(a, b api.State) bool {
	for _, s := range []*api.State{&a, &b} {
		*s = deepCopy(*s)
		s.Accounts, s.Jobs = orNil(s.Accounts), orNil(s.Jobs)
		for n := range s.Jobs {
			s.Jobs[n].Set = orNil(s.Jobs[n].Set)
		}
	}
	return reflect.DeepEqual(a, b)
}

func sameEvents(a, b []api.Event) bool {
	return slices.EqualFunc(a, b, func(x, y api.Event) bool {
		return x.Kind == y.Kind && x.Job == y.Job && x.At == y.At && x.Nodes == y.Nodes && x.Limit == y.Limit && slices.Equal(x.List, y.List)
	})
}
