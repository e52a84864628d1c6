package judge

import (
	"math"
	"slices"
	"strings"
	"testing"

	"backfill/answers"
	"backfill/api"
	"backfill/config"
)

func example() api.Config {
	return api.Config{Nodes: 4, Queue: 8, Limit: 10, Age: 1, Period: 100, Half: 100}
}

// long has one node, and no fade for a long time.
func long() api.Config {
	return api.Config{Nodes: 1, Queue: 128, Limit: 1 << 20, Age: 1, Period: 1 << 20, Half: 1 << 20}
}

// read takes events that are parted by commas.
func read(t *testing.T, text string) []api.Event {
	t.Helper()
	var l []api.Event
	for s := range strings.SplitSeq(text, ", ") {
		if s == "" {
			continue
		}
		e, c := answers.ReadEvent(s)
		if c != 0 {
			t.Fatalf("%q is no event", s)
		}
		l = append(l, e)
	}
	return l
}

// written is what read takes.
func written(l []api.Event) string {
	var words []string
	for _, e := range l {
		s, _ := answers.Event(e)
		words = append(words, s)
	}
	if len(words) > 60 {
		words = append([]string{".."}, words[len(words)-60:]...)
	}
	return strings.Join(words, ", ")
}

// ruleWords stand by the rules' numbers.
var ruleWords = []string{"", "once", "nodes", "end", "clock", "rank", "pin", "fill", "left"}

// rulesAt are the words of the faults of one event, as they were told.
func rulesAt(faults []api.Fault, at int) string {
	var words []string
	for _, f := range faults {
		if f.At == at {
			words = append(words, ruleWords[f.Rule])
		}
	}
	return strings.Join(words, " ")
}

// faultsOf reads faults: at each place the rules' words, as in "3 once end, 5 left".
func faultsOf(t *testing.T, text string) []api.Fault {
	t.Helper()
	var l []api.Fault
	for s := range strings.SplitSeq(text, ", ") {
		words := strings.Fields(s)
		for n := 1; n < len(words); n++ {
			at := 0
			for _, digit := range words[0] {
				at = 10*at + int(digit-'0')
			}
			rule := slices.Index(ruleWords, words[n])
			if rule < 1 {
				t.Fatal(words[n])
			}
			l = append(l, api.Fault{At: at, Rule: rule})
		}
	}
	return l
}

func deepCopy(l []api.Event) []api.Event {
	l = slices.Clone(l)
	for n := range l {
		l[n].List = slices.Clone(l[n].List)
	}
	return l
}

func sameEvents(a, b []api.Event) bool {
	return slices.EqualFunc(a, b, func(x, y api.Event) bool {
		return x.Kind == y.Kind && x.Job == y.Job && x.At == y.At && x.Nodes == y.Nodes && x.Limit == y.Limit && slices.Equal(x.List, y.List)
	})
}

// judged are the faults of a trace that is not refused, which First tells alike.
func judged(t *testing.T, c api.Config, l []api.Event) []api.Fault {
	t.Helper()
	faults, e := All(c, l)
	if e != 0 {
		t.Fatalf("%s: refused (%d)", written(l), e)
	}
	first, found, e := First(c, l)
	if e != 0 || found != (len(faults) > 0) || found && first != faults[0] || !found && first != (api.Fault{}) {
		t.Fatalf("%s: First %v %v %d, All %v", written(l), first, found, e, faults)
	}
	return faults
}

// tells holds the faults of a trace against those that are written out, and against the chapter's words taken plainly.
func tells(t *testing.T, c api.Config, text, want string) {
	t.Helper()
	l := read(t, text)
	faults := judged(t, c, l)
	if !slices.Equal(faults, faultsOf(t, want)) {
		t.Errorf("%s: %v, not %s", text, faults, want)
	}
	if plainly := plainAll(c, l); !slices.Equal(faults, plainly) {
		t.Errorf("%s: %v, not %v", text, faults, plainly)
	}
}

func refused(t *testing.T, c api.Config, l []api.Event, want api.Errno) {
	t.Helper()
	if faults, e := All(c, l); e != want || len(faults) != 0 {
		t.Errorf("%+v, %s: %v %d, not %d", c, written(l), faults, e, want)
	}
	if f, found, e := First(c, l); e != want || found || f != (api.Fault{}) {
		t.Errorf("%+v, %s: %v %v %d, not %d", c, written(l), f, found, e, want)
	}
}

func TestExamples(t *testing.T) {
	for _, x := range []struct{ trace, faults string }{
		{"submit 0 0 3 5, tick 1, pass 1 0, start 0 1 0 1 2, tick 2", ""},
		{"submit 0 0 3 5, tick 1, pass 1 0, tick 2", "3 left"},
		{"submit 0 0 3 5, tick 1, pass 1 0, start 0 1 0 1, tick 2", "3 nodes"},
		{"submit 0 0 3 5, tick 1, pass 1 0, start 0 1 1 2 4, tick 2", "3 nodes"},
		{"submit 1 0 1 1", "0 once"},
		{"submit 0 0 3 5, submit 1 0 3 5, submit 2 0 1 6, tick 1, pass 1 0 1 2, start 0 1 0 1 2, start 2 1 3, pin 1 1, tick 2", ""},
		{"submit 0 0 3 5, submit 1 0 3 5, submit 2 0 1 6, tick 1, pass 1 0 1 2, start 0 1 0 1 2, pin 1 1, tick 2", "6 pin, 7 left"},
		{"submit 0 0 3 5, submit 1 0 3 5, submit 2 0 1 6, tick 1, pass 1 0 1 2, start 0 1 0 1 2, start 2 1 3, tick 2", "7 pin"},
		{"submit 0 0 3 5, submit 1 0 4 5, submit 2 0 1 6, tick 1, pass 1 0 1 2, start 0 1 0 1 2, start 2 1 3, pin 1 1, tick 2", "6 fill"},
		{"tick 1, tick 3", "1 clock"},
		{"submit 0 0 1 1, tick 1, pass 1 0, start 0 1 0, tick 2, tick 3", "5 end"},
		{"submit 0 0 1 1, tick 1, pass 1 0 0, tick 2", "2 rank"},
	} {
		tells(t, example(), x.trace, x.faults)
	}
}

// DOC.md's examples, as traces.
func TestExamplesOfTheWhole(t *testing.T) {
	four := "submit 0 0 3 5, submit 1 0 3 5, submit 2 0 1 5, submit 3 0 1 6, tick 1, pass 1 0 1 2 3, start 0 1 0 1 2, start 2 1 3, pin 1 1, "
	on := "tick 2, pass 2 1 3, tick 3, pass 3 1 3, tick 4, pass 4 1 3, tick 5, pass 5 1 3, tick 6, "
	tells(t, example(), "submit 0 0 2 5, tick 1, pass 1 0, start 0 1 0 1, tick 2, tick 3, tick 4, tick 5, tick 6, end 0 6 killed", "")
	tells(t, example(), four+on+"end 0 6 killed, end 2 6 killed, pass 6 1 3, start 1 6 0 1 2, start 3 6 3, tick 7", "")
	tells(t, example(), four+"end 0 1 completed, tick 2, pass 2 1 3, start 1 2 0 1 2, pin 3 2, tick 3, pass 3 3", "")
	tells(t, example(), four+"end 1 1 dropped, tick 2, pass 2 3, pin 3 2, tick 3", "")
	tells(t, example(), four+on+"end 0 6 completed", "18 end left")
}

func TestP211NoEvents(t *testing.T) {
	for _, l := range [][]api.Event{nil, {}, make([]api.Event, 0, 5)} {
		if faults := judged(t, example(), l); len(faults) != 0 {
			t.Error(faults)
		}
	}
}

// wrongConfigs are refused, each by an error. (That of scale there is not.)
func wrongConfigs(t *testing.T) map[api.Config]api.Errno {
	t.Helper()
	l := map[api.Config]api.Errno{{}: 110}
	change := func(e api.Errno, how func(c *api.Config)) {
		c := example()
		how(&c)
		l[c] = e
	}
	for _, n := range []int{math.MinInt, -1, 0, math.MaxInt} {
		change(110, func(c *api.Config) { c.Nodes = n })
		change(110, func(c *api.Config) { c.Queue = n })
		change(110, func(c *api.Config) { c.Limit = n })
		change(110, func(c *api.Config) { c.Age = n })
		change(110, func(c *api.Config) { c.Period = n })
		change(110, func(c *api.Config) { c.Half = n })
		if n != 0 {
			change(110, func(c *api.Config) { c.Fair = n })
			change(110, func(c *api.Config) { c.Size = n })
		}
	}
	change(110, func(c *api.Config) { c.Nodes = 257 })
	change(110, func(c *api.Config) { c.Queue = 129 })
	change(111, func(c *api.Config) { c.Period, c.Half = 1, 1<<30 })
	change(113, func(c *api.Config) { c.Fair = 1 })
	for c, e := range l {
		if config.Check(c) != e {
			t.Fatal(c, e)
		}
	}
	return l
}

func TestP211Config(t *testing.T) {
	faulty := read(t, "submit 1 0 1 1, tick 3")
	for c, e := range wrongConfigs(t) {
		refused(t, c, nil, e)
		refused(t, c, []api.Event{}, e)
		refused(t, c, read(t, "tick 1"), e)
		refused(t, c, faulty, e)
		// It comes first.
		refused(t, c, []api.Event{{Kind: 8}}, e)
		refused(t, c, append(faulty[:2:2], api.Event{}), e)
	}
	many := slices.Repeat([]api.Event{{Kind: 6, At: 1}}, 1<<20+1)
	refused(t, api.Config{}, many, 110)
	refused(t, example(), many, 210)
}

// wrongEvents are refused by answers, by each thing that it asks.
func wrongEvents() []api.Event {
	right := map[int]api.Event{
		1: {Kind: 1, Job: 0, At: 0, Nodes: 1, Limit: 1},
		2: {Kind: 2, Job: 0, At: 0, List: []int{0, 1}},
		3: {Kind: 3, Job: 0, At: 0, Nodes: 3},
		4: {Kind: 4, Job: 0, At: 0},
		5: {Kind: 5, At: 0, List: []int{0}},
		6: {Kind: 6, At: 1},
		7: {Kind: 7, At: 1},
	}
	// Which fields a kind has: Job, At, Nodes, Limit, List.
	has := map[int]string{1: "JANL", 2: "JAI", 3: "JAN", 4: "JA", 5: "AI", 6: "A", 7: "A"}
	var l []api.Event
	for _, kind := range []int{0, 8, 9, -1, math.MinInt, math.MaxInt} {
		l = append(l, api.Event{Kind: kind}, api.Event{Kind: kind, Job: 1, At: 1, Nodes: 3})
	}
	for kind := 1; kind <= 7; kind++ {
		change := func(how func(e *api.Event, n int), numbers ...int) {
			for _, n := range numbers {
				e := right[kind]
				how(&e, n)
				l = append(l, e)
			}
		}
		for field, how := range map[string]func(e *api.Event, n int){
			"J": func(e *api.Event, n int) { e.Job = n },
			"A": func(e *api.Event, n int) { e.At = n },
			"N": func(e *api.Event, n int) { e.Nodes = n },
			"L": func(e *api.Event, n int) { e.Limit = n },
		} {
			change(how, -1, math.MinInt)
			if !strings.Contains(has[kind], field) {
				change(how, 1, math.MaxInt)
			}
		}
		switch kind {
		case 3:
			change(func(e *api.Event, n int) { e.Nodes = n }, 0, 1, 2, 7, math.MaxInt)
		case 2:
			change(func(e *api.Event, n int) { e.List = []int{n, 5} }, -1, math.MinInt, 5, 6, math.MaxInt)
			change(func(e *api.Event, n int) { e.List = []int{1, 2, 5, n} }, -1, 0, 1, 2, 4, 5)
			fallthrough
		case 5:
			change(func(e *api.Event, n int) { e.List = []int{n} }, -1, math.MinInt)
			change(func(e *api.Event, n int) { e.List = []int{0, 1, n} }, -1, math.MinInt)
		}
		if !strings.Contains(has[kind], "I") {
			change(func(e *api.Event, n int) { e.List = []int{n} }, 0, 1, -1)
		}
	}
	return l
}

func TestP211Events(t *testing.T) {
	before := read(t, "submit 0 0 3 5, tick 1, pass 1 0, start 0 1 0 1 2, tick 2")
	faulty := read(t, "submit 1 0 1 1, tick 1")
	for _, e := range wrongEvents() {
		if _, code := answers.Event(e); code == 0 {
			t.Fatalf("%+v is taken", e)
		}
		// At the first place, at a later one, at the last; also behind faults.
		refused(t, example(), []api.Event{e}, 210)
		refused(t, example(), slices.Insert(slices.Clone(before), 0, e), 210)
		refused(t, example(), slices.Insert(slices.Clone(before), 3, e), 210)
		refused(t, example(), append(slices.Clone(before), e), 210)
		refused(t, example(), append(slices.Clone(faulty), e), 210)
		refused(t, example(), append(slices.Clone(faulty), e, e), 210)
	}
}

// A nil List and an empty one are the same.
func TestR3Lists(t *testing.T) {
	for _, none := range [][]int{nil, {}, make([]int, 0, 3)} {
		l := []api.Event{
			{Kind: 1, Nodes: 1, Limit: 1, List: none}, {Kind: 6, At: 1, List: none}, {Kind: 5, At: 1, List: none}, {Kind: 4, At: 1, List: none},
			{Kind: 2, At: 1, List: none}, {Kind: 3, At: 1, Nodes: 3, List: none}, {Kind: 7, At: 1, List: none},
		}
		if faults := judged(t, example(), l); !slices.Equal(faults, faultsOf(t, "2 rank, 3 pin, 4 nodes rank, 5 once end, 6 clock")) {
			t.Error(faults)
		}
	}
	tells(t, example(), "tick 1, pass 1, tick 2, pass 2, pass 2", "4 clock")
}

// ticksUp is a trace of so many ticks.
func ticksUp(many int) []api.Event {
	l := make([]api.Event, many)
	for n := range l {
		l[n] = api.Event{Kind: 6, At: n + 1}
	}
	return l
}

func TestP211Most(t *testing.T) {
	const most = 1 << 20
	all := ticksUp(most + 1)
	if faults := judged(t, long(), all[:most]); len(faults) != 0 {
		t.Error(faults)
	}
	refused(t, long(), all, 210)
	refused(t, long(), slices.Repeat([]api.Event{{Kind: 8}}, most+1), 210)
	// With faults everywhere.
	same := slices.Repeat([]api.Event{{Kind: 6, At: 1}}, most)
	if faults := judged(t, long(), same); len(faults) != most-1 || faults[0] != (api.Fault{At: 1, Rule: 4}) || faults[most-2] != (api.Fault{At: most - 1, Rule: 4}) {
		t.Error(len(faults))
	}

	// Each number of a List counts one.
	numbers := make([]int, most)
	for n := range numbers {
		numbers[n] = n
	}
	for _, kind := range []int{2, 5} {
		one := api.Event{Kind: kind, List: numbers[:most-1]}
		want := []api.Fault{{At: 0, Rule: 1}, {At: 0, Rule: 5}}
		if kind == 5 {
			want = []api.Fault{{At: 0, Rule: 4}, {At: 0, Rule: 5}}
		}
		if faults := judged(t, long(), []api.Event{one}); !slices.Equal(faults, want) {
			t.Error(faults)
		}
		refused(t, long(), []api.Event{one, {Kind: 6, At: 1}}, 210)
		refused(t, long(), []api.Event{{Kind: 6, At: 1}, one}, 210)
		one.List = numbers
		refused(t, long(), []api.Event{one}, 210)
	}

	// 4096 events, most of which have lists of 255 numbers.
	l := slices.Repeat([]api.Event{{Kind: 5, List: numbers[:255]}}, 4096)
	if faults := judged(t, long(), l); len(faults) != 2*4096 {
		t.Error(len(faults))
	}
	refused(t, long(), append(l, api.Event{Kind: 6, At: 1}), 210)
	l[4095].List = numbers[:256]
	refused(t, long(), l, 210)
	l[0].List = numbers[:254]
	if faults := judged(t, long(), l); len(faults) != 2*4096 {
		t.Error(len(faults))
	}
	l[1] = api.Event{Kind: 2, List: numbers[:256]}
	refused(t, long(), l, 210)
}

// What is handed in stays as it was, also behind the lists' ends, and what is told is nobody else's.
func TestR4Memory(t *testing.T) {
	l := read(t, "submit 0 0 3 5, submit 1 0 3 5, submit 2 0 1 6, tick 1, pass 1 0 1 2, start 0 1 0 1 2, start 2 1 3, pin 1 1, tick 2, pass 2 1 0, start 1 2 0 1, tick 3, end 0 3 dropped, tick 5")
	spare := make([]api.Event, len(l), 2*len(l))
	for n, e := range l {
		list := append(make([]int, 0, len(e.List)+4), e.List...)
		for i := range 4 {
			list[:cap(list)][len(e.List)+i] = 70 + i
		}
		e.List = list
		spare[n] = e
		spare[:cap(spare)][len(l)+n] = api.Event{Kind: 8, Job: n}
	}
	was := deepCopy(spare[:cap(spare)])
	want := judged(t, example(), spare)
	if len(want) < 4 {
		t.Fatal(want)
	}
	look := func() {
		t.Helper()
		if !sameEvents(spare[:cap(spare)], was) {
			t.Error("the events have changed")
		}
		for n, e := range spare {
			for i := range 4 {
				if e.List[:cap(e.List)][len(l[n].List)+i] != 70+i {
					t.Error("what is behind a list has changed")
				}
			}
		}
	}
	look()
	a, _ := All(example(), spare)
	b, _ := All(example(), spare)
	for n := range a[:cap(a)] {
		a[:cap(a)][n] = api.Fault{At: 99, Rule: 99}
	}
	c, _ := All(example(), spare)
	if !slices.Equal(b, want) || !slices.Equal(c, want) {
		t.Error(b, c)
	}
	look()
	// Nor is it kept.
	for n := range spare {
		spare[n] = api.Event{}
	}
	if d, _ := All(example(), l); !slices.Equal(d, want) || !slices.Equal(b, want) {
		t.Error(d, b)
	}
}
