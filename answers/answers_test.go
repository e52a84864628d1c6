package answers

import (
	"math"
	"math/big"
	"reflect"
	"slices"
	"strconv"
	"strings"
	"sync"
	"testing"

	"backfill/api"
)

// The tests hold the package against a plain one that goes through the chapter's tables as texts, and finds the fields by their names.
// Behind a field's name there may stand: /n, the word of a state from n on; ^, numbers that rise; *, numbers from 0 on; ~, a number from -1 on.

// eventTable is the chapter's, at each Kind's place.
var eventTable = []string{
	"",
	"submit Job At Nodes Limit",
	"start Job At List^",
	"end Job At Nodes/3",
	"pin Job At",
	"pass At List*",
	"tick At",
	"decay At",
}

// answerTable is the chapter's, at each kind's place: behind the bar what has lines of its own.
var answerTable = []string{
	"",
	"job Id|Events",
	"ok|Events",
	"ok|Events",
	"ok|Events",
	"account Id|",
	"ok|",
	"ok|",
	"ok|",
	"job Job.Account Job.Nodes Job.Limit Job.Submit Job.State/1 Job.Start Job.End Job.Set^|",
	"holder Holder~ Shadow|Ranks",
	"usage Raw Usage Factor|",
	"free Free|",
	"config Config.Nodes Config.Queue Config.Limit Config.Age Config.Fair Config.Size Config.Period Config.Half Bound|",
}

const (
	errorRow = "error Code|"
	rankRow  = "Job Priority"
)

var plainStates = []string{"", "pending", "running", "completed", "killed", "stopped", "dropped"}

// fieldOf parts a table's field into the name and what stands behind it.
func fieldOf(field string) (string, string) {
	if i := strings.IndexAny(field, "/^*~"); i >= 0 {
		return field[:i], field[i:]
	}
	return field, ""
}

// slot is where a field stands: of the name Job.Set the Set of the Job.
func slot(root reflect.Value, name string) reflect.Value {
	for _, n := range strings.Split(name, ".") {
		root = root.FieldByName(n)
	}
	return root
}

// leaves are the names of all fields, those of structs inside one by one.
func leaves(t reflect.Type) []string {
	var l []string
	for i := range t.NumField() {
		f := t.Field(i)
		if f.Type.Kind() != reflect.Struct {
			l = append(l, f.Name)
			continue
		}
		for _, inner := range leaves(f.Type) {
			l = append(l, f.Name+"."+inner)
		}
	}
	return l
}

func isNothing(v reflect.Value) bool {
	return v.Kind() == reflect.Slice && v.Len() == 0 || v.IsZero()
}

func plainWord(v reflect.Value, how string) (string, bool) {
	switch {
	case v.Kind() == reflect.Uint64:
		return new(big.Int).SetUint64(v.Uint()).String(), true
	case how == "^" || how == "*":
		text, last := "", -1
		for _, n := range v.Interface().([]int) {
			if n < 0 || how == "^" && n <= last {
				return "", false
			}
			text, last = text+" "+big.NewInt(int64(n)).String(), n
		}
		return text, true
	case strings.HasPrefix(how, "/"):
		if v.Int() < int64(how[1]-'0') || v.Int() > 6 {
			return "", false
		}
		return plainStates[v.Int()], true
	}
	least := int64(0)
	if how == "~" {
		least = -1
	}
	return big.NewInt(v.Int()).String(), v.Int() >= least
}

// plainLine writes the fields of a table's row; the names among `others` must be nothing unless the row has them.
func plainLine(root reflect.Value, row string, others []string) (string, bool) {
	words := strings.Fields(row)
	named := map[string]bool{}
	line := ""
	for i, w := range words {
		name, how := fieldOf(w)
		if i == 0 && row != rankRow {
			line = w
			continue
		}
		named[name] = true
		text, ok := plainWord(slot(root, name), how)
		if !ok {
			return "", false
		}
		if line != "" && how != "^" && how != "*" {
			line += " "
		}
		line += text
	}
	for _, name := range others {
		if !named[name] && !isNothing(slot(root, name)) {
			return "", false
		}
	}
	return line, true
}

func otherThan(names []string, out ...string) []string {
	return slices.DeleteFunc(slices.Clone(names), func(n string) bool { return slices.Contains(out, n) })
}

func plainEvent(e api.Event) (string, api.Errno) {
	if e.Kind < 1 || e.Kind > 7 {
		return "", 90
	}
	v := reflect.ValueOf(e)
	line, ok := plainLine(v, eventTable[e.Kind], otherThan(leaves(v.Type()), "Kind"))
	if !ok {
		return "", 90
	}
	return line, 0
}

func plainPrint(kind int, a api.Answer) (string, api.Errno) {
	if kind < 1 || kind > 13 || a.Code < 0 || a.Code > 999 {
		return "", 90
	}
	row := answerTable[kind]
	if a.Code != 0 {
		row = errorRow
	}
	row, rows, _ := strings.Cut(row, "|")
	v := reflect.ValueOf(a)
	text, ok := plainLine(v, row, otherThan(leaves(v.Type()), rows))
	if !ok {
		return "", 90
	}
	text += "\n"
	for _, e := range a.Events {
		line, code := plainEvent(e)
		if code != 0 {
			return "", 90
		}
		text += line + "\n"
	}
	for _, r := range a.Ranks {
		line, ok := plainLine(reflect.ValueOf(r), rankRow, nil)
		if !ok {
			return "", 90
		}
		text += line + "\n"
	}
	return text, 0
}

// looseLine reads whatever it can: that a text is right is told by what is written of the answer again.
func looseLine(root reflect.Value, row, line string) {
	words := strings.Fields(line)
	for i, w := range strings.Fields(row) {
		name, how := fieldOf(w)
		if i == 0 && row != rankRow || i >= len(words) {
			continue
		}
		v := slot(root, name)
		n, _ := new(big.Int).SetString(words[i], 10)
		switch {
		case how == "^" || how == "*":
			for _, w := range words[i:] {
				n, _ := strconv.Atoi(w)
				v.Set(reflect.Append(v, reflect.ValueOf(n)))
			}
		case strings.HasPrefix(how, "/"):
			v.SetInt(int64(slices.Index(plainStates, words[i])))
		case v.Kind() == reflect.Uint64 && n != nil:
			v.SetUint(n.Uint64())
		case v.Kind() != reflect.Uint64 && n != nil:
			v.SetInt(n.Int64())
		}
	}
}

func plainReadEvent(s string) (api.Event, api.Errno) {
	for kind := 1; kind <= 7; kind++ {
		if word, _, _ := strings.Cut(eventTable[kind], " "); !strings.HasPrefix(s, word) {
			continue
		}
		e := api.Event{Kind: kind}
		looseLine(reflect.ValueOf(&e).Elem(), eventTable[kind], s)
		if line, code := plainEvent(e); code == 0 && line == s {
			return e, 0
		}
	}
	return api.Event{}, 90
}

func plainParse(kind int, text string) (api.Answer, api.Errno) {
	if kind < 1 || kind > 13 {
		return api.Answer{}, 90
	}
	lines := strings.Split(text, "\n")
	for _, row := range []string{answerTable[kind], errorRow} {
		row, rows, _ := strings.Cut(row, "|")
		var a api.Answer
		looseLine(reflect.ValueOf(&a).Elem(), row, lines[0])
		for _, line := range lines[1:max(1, len(lines)-1)] {
			switch rows {
			case "Events":
				e, _ := plainReadEvent(line)
				a.Events = append(a.Events, e)
			case "Ranks":
				var r api.Rank
				looseLine(reflect.ValueOf(&r).Elem(), rankRow, line)
				a.Ranks = append(a.Ranks, r)
			}
		}
		if again, code := plainPrint(kind, a); code == 0 && again == text {
			return a, 0
		}
	}
	return api.Answer{}, 90
}

// same holds two events, answers or lists against each other; a list that is nil and an empty one are the same.
func same(a, b any) bool { return alike(reflect.ValueOf(a), reflect.ValueOf(b)) }

func alike(a, b reflect.Value) bool {
	switch a.Kind() {
	case reflect.Slice:
		if a.Len() != b.Len() {
			return false
		}
		for i := range a.Len() {
			if !alike(a.Index(i), b.Index(i)) {
				return false
			}
		}
		return true
	case reflect.Struct:
		for i := range a.NumField() {
			if !alike(a.Field(i), b.Field(i)) {
				return false
			}
		}
		return true
	}
	return a.Equal(b)
}

// checkEvent holds Event against the plain one, and what was written is read again.
func checkEvent(t *testing.T, e api.Event) {
	t.Helper()
	want, wantCode := plainEvent(e)
	line, code := Event(e)
	if line != want || code != wantCode {
		t.Fatalf("Event(%+v): %q %d, not %q %d", e, line, code, want, wantCode)
	}
	if code != 0 {
		return
	}
	if back, code := ReadEvent(line); code != 0 || !same(back, e) {
		t.Fatalf("ReadEvent(%q): %+v %d, not %+v", line, back, code, e)
	}
}

func checkLine(t *testing.T, s string) {
	t.Helper()
	want, wantCode := plainReadEvent(s)
	e, code := ReadEvent(s)
	if code != wantCode || !same(e, want) {
		t.Fatalf("ReadEvent(%q): %+v %d, not %+v %d", s, e, code, want, wantCode)
	}
	if code != 0 {
		return
	}
	if again, code := Event(e); code != 0 || again != s {
		t.Fatalf("Event(ReadEvent(%q)): %q %d", s, again, code)
	}
}

// checkAnswer holds Check and Print against the plain ones, and what was written is read again.
func checkAnswer(t *testing.T, kind int, a api.Answer) {
	t.Helper()
	want, wantCode := plainPrint(kind, a)
	text, code := Print(kind, a)
	if text != want || code != wantCode {
		t.Fatalf("Print(%d, %+v): %q %d, not %q %d", kind, a, text, code, want, wantCode)
	}
	if code := Check(kind, a); code != wantCode {
		t.Fatalf("Check(%d, %+v): %d, not %d", kind, a, code, wantCode)
	}
	if code != 0 {
		return
	}
	if back, code := Parse(kind, text); code != 0 || !same(back, a) {
		t.Fatalf("Parse(%d, %q): %+v %d, not %+v", kind, text, back, code, a)
	}
}

func checkText(t *testing.T, kind int, text string) {
	t.Helper()
	want, wantCode := plainParse(kind, text)
	a, code := Parse(kind, text)
	if code != wantCode || !same(a, want) {
		t.Fatalf("Parse(%d, %q): %+v %d, not %+v %d", kind, text, a, code, want, wantCode)
	}
	if code != 0 {
		return
	}
	if e := Check(kind, a); e != 0 {
		t.Fatalf("Check(%d, Parse(%q)): %d", kind, text, e)
	}
	if again, code := Print(kind, a); code != 0 || again != text {
		t.Fatalf("Print(%d, Parse(%q)): %q %d", kind, text, again, code)
	}
}

// mixed tells numbers that look drawn, and are the same at each run.
type mixed uint64

func (m *mixed) next() uint64 {
	*m += 0x9e3779b97f4a7c15
	z := uint64(*m)
	z = (z ^ z>>30) * 0xbf58476d1ce4e5b9
	z = (z ^ z>>27) * 0x94d049bb133111eb
	return z ^ z>>31
}

func (m *mixed) below(n int) int { return int(m.next() % uint64(n)) }

// number is now small, now great, and seldom below 0.
func (m *mixed) number() int {
	switch m.below(24) {
	case 0:
		return -1 - m.below(3)
	case 1:
		return math.MinInt
	case 2, 3:
		return math.MaxInt - m.below(2)
	case 4, 5, 6, 7:
		return int(m.next() >> (1 + m.below(63)))
	}
	return m.below(8)
}

// numbers rise, but seldom not.
func (m *mixed) numbers() []int {
	var l []int
	last := -1
	for range m.below(5) {
		last += 1 + m.below(4)
		l = append(l, last)
	}
	if len(l) > 0 && m.below(8) == 0 {
		l[m.below(len(l))] = m.number()
	}
	return l
}

// event has what its Kind asks for, and now and then a field more.
func (m *mixed) event() api.Event {
	e := api.Event{Kind: m.below(7) + 1}
	v := reflect.ValueOf(&e).Elem()
	for _, f := range strings.Fields(eventTable[e.Kind])[1:] {
		m.fill(v, f)
	}
	if m.below(16) == 0 {
		m.fill(v, []string{"Kind", "Job", "At", "Nodes", "Limit", "List*"}[m.below(6)])
	}
	return e
}

func (m *mixed) fill(root reflect.Value, field string) {
	name, how := fieldOf(field)
	v := slot(root, name)
	switch {
	case v.Type() == reflect.TypeOf([]int{}):
		v.Set(reflect.ValueOf(m.numbers()))
	case v.Type() == reflect.TypeOf([]api.Event{}):
		var l []api.Event
		for range m.below(4) {
			l = append(l, m.event())
		}
		v.Set(reflect.ValueOf(l))
	case v.Type() == reflect.TypeOf([]api.Rank{}):
		var l []api.Rank
		for range m.below(4) {
			l = append(l, api.Rank{Job: m.number(), Priority: m.number()})
		}
		v.Set(reflect.ValueOf(l))
	case v.Kind() == reflect.Uint64:
		v.SetUint(m.next() >> m.below(64))
	case strings.HasPrefix(how, "/"):
		v.SetInt(int64(m.below(8)))
	default:
		v.SetInt(int64(m.number()))
	}
}

// answer has what its kind asks for, now and then an error instead, and now and then a field more.
func (m *mixed) answer(kind int) api.Answer {
	var a api.Answer
	v := reflect.ValueOf(&a).Elem()
	row, rows, _ := strings.Cut(answerTable[kind], "|")
	if m.below(10) == 0 {
		a.Code = api.Errno(m.below(1002))
		row, rows = "error", ""
	}
	for _, f := range append(strings.Fields(row)[1:], strings.Fields(rows)...) {
		m.fill(v, f)
	}
	if m.below(16) == 0 {
		names := leaves(v.Type())
		m.fill(v, names[m.below(len(names))])
	}
	return a
}

// events are some that may be: one of each Kind, and at the edges.
func events() []api.Event {
	return []api.Event{
		{Kind: api.EvSubmit, Job: 1, At: 2, Nodes: 3, Limit: 4},
		{Kind: api.EvSubmit},
		{Kind: api.EvSubmit, Job: math.MaxInt, At: math.MaxInt, Nodes: math.MaxInt, Limit: math.MaxInt},
		{Kind: api.EvStart, Job: 2, At: 7, List: []int{0, 3}},
		{Kind: api.EvStart, Job: 2, At: 7},
		{Kind: api.EvStart, Job: 2, At: 7, List: []int{math.MaxInt}},
		{Kind: api.EvEnd, Job: 2, At: 9, Nodes: 3},
		{Kind: api.EvEnd, Job: 2, At: 9, Nodes: 4},
		{Kind: api.EvEnd, Job: 2, At: 9, Nodes: 5},
		{Kind: api.EvEnd, Job: 2, At: 9, Nodes: 6},
		{Kind: api.EvPin, Job: 4, At: 3},
		{Kind: api.EvPass, At: 3},
		{Kind: api.EvPass, At: 3, List: []int{5, 1, 5}},
		{Kind: api.EvTick, At: 3},
		{Kind: api.EvDecay, At: 3},
	}
}

// answersOf are some that may be, of a kind.
func answersOf(kind int) []api.Answer {
	job := api.Job{Account: 1, Nodes: 2, Limit: 5, Submit: 3, State: 2, Start: 4, Set: []int{0, 6}}
	l := []api.Answer{{Code: 1}, {Code: 187}, {Code: 999}}
	switch kind {
	case api.CmdSubmit:
		return append(l, api.Answer{Id: 4}, api.Answer{Id: 4, Events: events()[:1]}, api.Answer{Events: events()})
	case api.CmdCancel, api.CmdComplete, api.CmdTick:
		return append(l, api.Answer{}, api.Answer{Events: events()[:1]}, api.Answer{Events: events()})
	case api.CmdAccount:
		return append(l, api.Answer{}, api.Answer{Id: 2}, api.Answer{Id: math.MaxInt})
	case api.CmdJob:
		return append(l, api.Answer{Job: job}, api.Answer{Job: api.Job{State: 1}}, api.Answer{Job: api.Job{State: 6, End: 8}})
	case api.CmdQueue:
		ranks := []api.Rank{{Job: 1, Priority: 6}, {Job: 3, Priority: 1}}
		return append(l, api.Answer{Holder: -1}, api.Answer{}, api.Answer{Holder: 1, Shadow: 6, Ranks: ranks})
	case api.CmdUsage:
		return append(l, api.Answer{}, api.Answer{Raw: 7, Usage: 1 << 63, Factor: 5}, api.Answer{Usage: math.MaxUint64, Factor: math.MaxUint64})
	case api.CmdNodes:
		return append(l, api.Answer{}, api.Answer{Free: 3})
	case api.CmdConfig:
		return append(l, api.Answer{}, api.Answer{Config: api.Config{Nodes: 1, Queue: 2, Limit: 3, Age: 4, Fair: 5, Size: 6, Period: 7, Half: 8}, Bound: 9})
	}
	return append(l, api.Answer{})
}

// spoiled are texts made of one by one change each: most are none any more.
func spoiled(s string) []string {
	l := []string{"", " " + s, s + " ", s + "\t", s + "\n", s + "\r", s + "\x00", s + " 1", s + " x", s + " -1", "\n" + s, s + "\n\n", s + s}
	l = append(l, strings.ToUpper(s), strings.Replace(s, " ", "  ", 1), strings.Replace(s, " ", "\t", 1), strings.ReplaceAll(s, "\n", "\r\n"), strings.TrimSuffix(s, "\n"))
	for i := range len(s) {
		l = append(l, s[:i], s[i:], s[:i]+s[i+1:], s[:i]+" "+s[i:], s[:i]+"0"+s[i:], s[:i]+"\n"+s[i:], s[:i]+"\xff"+s[i+1:], s[:i]+"é"+s[i:])
		if s[i] >= 'a' && s[i] <= 'z' {
			l = append(l, s[:i]+strings.ToUpper(s[i:i+1])+s[i+1:])
		}
	}
	return append(l, otherNumbers(s)...)
}

// otherNumbers puts others in each number's place, as they may be and as they may not.
func otherNumbers(s string) []string {
	var l []string
	for i := 0; i < len(s); i++ {
		if !isDigit(s[i]) {
			continue
		}
		end := i
		for end < len(s) && isDigit(s[end]) {
			end++
		}
		for _, n := range numberTexts() {
			l = append(l, s[:i]+n+s[end:])
		}
		l = append(l, s[:i]+"0"+s[i:], s[:i]+"+"+s[i:], s[:i]+"-"+s[i:])
		i = end
	}
	return l
}

func isDigit(b byte) bool { return b >= '0' && b <= '9' }

func numberTexts() []string {
	return []string{"", "0", "00", "01", "-0", "+0", "-1", "-2", "+1", "1", "2", "999", "1000", "0x1", "1_0", "1e1", "1.0", "x", "-", "+", "٣", "killed",
		"9223372036854775807", "9223372036854775808", "-9223372036854775808", "18446744073709551615", "18446744073709551616", "-18446744073709551615", strings.Repeat("9", 40)}
}

func edges() []int {
	return []int{math.MinInt, -999, -2, -1, 0, 1, 2, 3, 4, 5, 6, 7, 999, 1000, math.MaxInt}
}

func kinds() []int {
	l := []int{math.MinInt, -1, 14, 255, 256, math.MaxInt}
	for kind := range 14 {
		l = append(l, kind)
	}
	return l
}

func lists() [][]int {
	return [][]int{nil, {}, {0}, {5}, {math.MaxInt}, {-1}, {math.MinInt}, {0, 1}, {2, 5, 9}, {3, 3}, {0, 0}, {5, 4}, {-1, 0}, {0, -1}, {1, 2, 2}, {1, 3, 2}, {0, 1, math.MaxInt}}
}

func TestExamples(t *testing.T) {
	for _, x := range []struct {
		e    api.Event
		line string
	}{
		{api.Event{Kind: api.EvStart, Job: 2, At: 7, List: []int{0, 3}}, "start 2 7 0 3"},
		{api.Event{Kind: api.EvEnd, Job: 2, At: 9, Nodes: 4}, "end 2 9 killed"},
		{api.Event{Kind: api.EvPass, At: 3}, "pass 3"},
	} {
		if line, code := Event(x.e); line != x.line || code != api.OK {
			t.Errorf("Event(%+v): %q %d", x.e, line, code)
		}
		if e, code := ReadEvent(x.line); !same(e, x.e) || code != api.OK {
			t.Errorf("ReadEvent(%q): %+v %d", x.line, e, code)
		}
	}
	for _, s := range []string{"pass 3 ", "tick 03", "end 1 2 running"} {
		if e, code := ReadEvent(s); !same(e, api.Event{}) || code != api.ErrAnswerForm {
			t.Errorf("ReadEvent(%q): %+v %d", s, e, code)
		}
	}
	submitted := []api.Event{{Kind: api.EvSubmit, Job: 4, At: 7, Nodes: 2, Limit: 5}}
	ranks := []api.Rank{{Job: 1, Priority: 6}, {Job: 3, Priority: 1}}
	for _, x := range []struct {
		kind int
		a    api.Answer
		text string
	}{
		{api.CmdTick, api.Answer{Code: 187}, "error 187\n"},
		{api.CmdQueue, api.Answer{Holder: -1}, "holder -1 0\n"},
		{api.CmdQueue, api.Answer{Ranks: ranks, Holder: 1, Shadow: 6}, "holder 1 6\n1 6\n3 1\n"},
		{api.CmdSubmit, api.Answer{Id: 4, Events: submitted}, "job 4\nsubmit 4 7 2 5\n"},
		{api.CmdNodes, api.Answer{Free: 3}, "free 3\n"},
	} {
		if text, code := Print(x.kind, x.a); text != x.text || code != api.OK {
			t.Errorf("Print(%d, %+v): %q %d", x.kind, x.a, text, code)
		}
		if a, code := Parse(x.kind, x.text); !same(a, x.a) || code != api.OK {
			t.Errorf("Parse(%d, %q): %+v %d", x.kind, x.text, a, code)
		}
	}
	refused(t, api.CmdShares, api.Answer{Id: 1})
	refused(t, api.CmdNodes, api.Answer{Free: -1})
	refused(t, 14, api.Answer{})
	if a, code := Parse(api.CmdShares, "ok"); !same(a, api.Answer{}) || code != api.ErrAnswerForm {
		t.Error(a, code)
	}
}

func refused(t *testing.T, kind int, a api.Answer) {
	t.Helper()
	if text, code := Print(kind, a); text != "" || code != api.ErrAnswerForm {
		t.Errorf("Print(%d, %+v): %q %d", kind, a, text, code)
	}
	if code := Check(kind, a); code != api.ErrAnswerForm {
		t.Errorf("Check(%d, %+v): %d", kind, a, code)
	}
}

func printed(t *testing.T, kind int, a api.Answer, want string) {
	t.Helper()
	if text, code := Print(kind, a); text != want || code != api.OK {
		t.Errorf("Print(%d, %+v): %q %d, not %q", kind, a, text, code, want)
	}
	if code := Check(kind, a); code != api.OK {
		t.Errorf("Check(%d, %+v): %d", kind, a, code)
	}
}

func TestP91EventsLines(t *testing.T) {
	want := []string{
		"submit 1 2 3 4",
		"submit 0 0 0 0",
		"submit 9223372036854775807 9223372036854775807 9223372036854775807 9223372036854775807",
		"start 2 7 0 3",
		"start 2 7",
		"start 2 7 9223372036854775807",
		"end 2 9 completed",
		"end 2 9 killed",
		"end 2 9 stopped",
		"end 2 9 dropped",
		"pin 4 3",
		"pass 3",
		"pass 3 5 1 5",
		"tick 3",
		"decay 3",
	}
	for i, e := range events() {
		if line, code := Event(e); line != want[i] || code != api.OK {
			t.Errorf("Event(%+v): %q %d, not %q", e, line, code, want[i])
		}
		if back, code := ReadEvent(want[i]); !same(back, e) || code != api.OK {
			t.Errorf("ReadEvent(%q): %+v %d, not %+v", want[i], back, code, e)
		}
	}
}

func TestP91EventOfEachKindAndField(t *testing.T) {
	for _, kind := range kinds() {
		checkEvent(t, api.Event{Kind: kind})
		for _, base := range append(events(), api.Event{}) {
			for _, name := range []string{"Job", "At", "Nodes", "Limit"} {
				for _, n := range edges() {
					e := base
					e.Kind = kind
					slot(reflect.ValueOf(&e).Elem(), name).SetInt(int64(n))
					checkEvent(t, e)
				}
			}
			for _, l := range lists() {
				e := base
				e.Kind, e.List = kind, l
				checkEvent(t, e)
			}
		}
	}
}

func TestP91EventRefuses(t *testing.T) {
	for _, e := range []api.Event{
		{},
		{At: 1},
		{Kind: 8, At: 1},
		{Kind: -1},
		{Kind: math.MaxInt},
		{Kind: api.EvSubmit, Job: -1},
		{Kind: api.EvSubmit, At: -1},
		{Kind: api.EvSubmit, Nodes: -1},
		{Kind: api.EvSubmit, Limit: -1},
		{Kind: api.EvSubmit, List: []int{0}},
		{Kind: api.EvStart, List: []int{1, 1}},
		{Kind: api.EvStart, List: []int{2, 1}},
		{Kind: api.EvStart, List: []int{-1}},
		{Kind: api.EvStart, Nodes: 1, List: []int{1}},
		{Kind: api.EvStart, Limit: 1},
		{Kind: api.EvEnd},
		{Kind: api.EvEnd, Nodes: 2},
		{Kind: api.EvEnd, Nodes: 7},
		{Kind: api.EvEnd, Nodes: -3},
		{Kind: api.EvEnd, Nodes: 3, Limit: 1},
		{Kind: api.EvEnd, Nodes: 3, List: []int{0}},
		{Kind: api.EvPin, Nodes: 1},
		{Kind: api.EvPin, Limit: -1},
		{Kind: api.EvPin, List: []int{0}},
		{Kind: api.EvPass, Job: 1},
		{Kind: api.EvPass, List: []int{1, -1}},
		{Kind: api.EvTick, Job: 1},
		{Kind: api.EvTick, At: -1},
		{Kind: api.EvTick, List: []int{0}},
		{Kind: api.EvDecay, Job: -1},
		{Kind: api.EvDecay, Nodes: 3},
		{Kind: api.EvDecay, List: []int{0}},
	} {
		if line, code := Event(e); line != "" || code != api.ErrAnswerForm {
			t.Errorf("Event(%+v): %q %d", e, line, code)
		}
	}
}

func TestP91ReadEventRefuses(t *testing.T) {
	for _, s := range []string{
		"", " ", "\n", "submit", "Submit 1 2 3 4", "submit 1 2 3", "submit 1 2 3 4 5", " submit 1 2 3 4", "submit  1 2 3 4", "submit\t1 2 3 4", "submit 1 2 3 4\n",
		"submit 1 2 3 4 ", "submit 01 2 3 4", "submit +1 2 3 4", "submit -1 2 3 4", "submit x 2 3 4", "submit 1  3 4", "submit 9223372036854775808 2 3 4",
		"start", "start 1", "start 1 2 ", "start 1 2 3 3", "start 1 2 4 3", "start 1 2 -1", "start 1 2 03", "start 1 2 3  4", "start 1 2 9223372036854775808",
		"end 1 2", "end 1 2 3", "end 1 2 pending", "end 1 2 running", "end 1 2 Killed", "end 1 2 killed 1", "end 1 2 ", "end 1 killed", "end 1 2 kill", "end killed 1 2",
		"pin", "pin 1", "pin 1 -2", "pin 1 2 3", "pass", "pass ", "pass 3 ", "pass 3 -1", "pass 3 +1", "pass -3", "tick", "tick 1 2", "tick 03", "TICK 1", "tick 1\r",
		"decay", "decay 1 2", "decay -0", "decay 1 killed", "job 1", "ok", "error 1", "1 2",
	} {
		if e, code := ReadEvent(s); !same(e, api.Event{}) || code != api.ErrAnswerForm {
			t.Errorf("ReadEvent(%q): %+v %d", s, e, code)
		}
	}
}

func TestP91ReadEventOfSpoiledLines(t *testing.T) {
	for _, e := range events() {
		line, _ := Event(e)
		checkLine(t, line)
		for _, s := range spoiled(line) {
			checkLine(t, s)
		}
	}
	words := []string{"submit", "start", "end", "pin", "pass", "tick", "decay", "killed", "pending", "dropped", "", "0", "1", "2", "10", "-1", "01"}
	m := mixed(1)
	for range 20000 {
		var l []string
		for range 1 + m.below(6) {
			l = append(l, words[m.below(len(words))])
		}
		l[0] = words[m.below(8)]
		checkLine(t, strings.Join(l, " "))
	}
}

func TestP91EachByte(t *testing.T) {
	for _, line := range []string{"end 1 2 killed", "start 1 2 3"} {
		for b := range 256 {
			for i := range len(line) {
				checkLine(t, line[:i]+string([]byte{byte(b)})+line[i+1:])
			}
		}
	}
}

func TestP92CheckOfEachKindAndField(t *testing.T) {
	for _, kind := range kinds() {
		bases := []api.Answer{{}, {Code: 1}, {Holder: -1}, {Job: api.Job{State: 1}}}
		if kind >= 1 && kind <= 13 {
			bases = append(bases, answersOf(kind)...)
		}
		for _, base := range bases {
			checkAnswer(t, kind, base)
			for _, name := range leaves(reflect.TypeOf(base)) {
				for _, a := range changed(base, name) {
					checkAnswer(t, kind, a)
				}
			}
		}
	}
}

// changed are answers with others in one field: its edges.
func changed(base api.Answer, name string) []api.Answer {
	var l []api.Answer
	with := func(x any) {
		a := base
		v := slot(reflect.ValueOf(&a).Elem(), name)
		v.Set(reflect.ValueOf(x).Convert(v.Type()))
		l = append(l, a)
	}
	switch name {
	case "Job.Set":
		for _, x := range lists() {
			with(x)
		}
	case "Events":
		with([]api.Event{})
		with(events())
		for _, e := range events() {
			with([]api.Event{e})
			e.At = -1
			with([]api.Event{e, {Kind: api.EvTick}})
			with([]api.Event{{Kind: api.EvTick}, e})
		}
		with([]api.Event{{}})
		with([]api.Event{{Kind: 8}})
	case "Ranks":
		for _, x := range [][]api.Rank{{}, {{}}, {{Job: 1, Priority: 6}}, {{Job: 3, Priority: 1}, {Job: 1, Priority: 6}}, {{Job: 1}, {Job: 1}}, {{Job: -1}}, {{Priority: -1}}, {{Job: 1}, {Priority: math.MinInt}}, {{Job: math.MaxInt, Priority: math.MaxInt}}} {
			with(x)
		}
	case "Usage", "Factor":
		with(uint64(0))
		with(uint64(1))
		with(uint64(math.MaxInt64))
		with(uint64(math.MaxUint64))
	default:
		for _, n := range edges() {
			with(n)
		}
	}
	return l
}

func TestP92Codes(t *testing.T) {
	for kind := 1; kind <= 13; kind++ {
		printed(t, kind, api.Answer{Code: 1}, "error 1\n")
		printed(t, kind, api.Answer{Code: 999, Events: []api.Event{}, Ranks: []api.Rank{}}, "error 999\n")
		for _, a := range []api.Answer{{Code: -1}, {Code: 1000}, {Code: math.MinInt}, {Code: math.MaxInt}} {
			refused(t, kind, a)
		}
		for _, a := range answersOf(kind) {
			if a.Code == 0 && !isNothing(reflect.ValueOf(a)) {
				a.Code = 187
				refused(t, kind, a)
			}
		}
		refused(t, kind, api.Answer{Code: 1, Id: 1})
		refused(t, kind, api.Answer{Code: 1, Holder: -1})
		refused(t, kind, api.Answer{Code: 1, Events: []api.Event{{Kind: api.EvTick}}})
		refused(t, kind, api.Answer{Code: 1, Ranks: []api.Rank{{}}})
		refused(t, kind, api.Answer{Code: 1, Job: api.Job{Set: []int{0}}})
	}
	for _, kind := range []int{math.MinInt, -1, 0, 14, math.MaxInt} {
		refused(t, kind, api.Answer{})
		refused(t, kind, api.Answer{Code: 1})
	}
}

func TestP92Edges(t *testing.T) {
	refused(t, api.CmdQueue, api.Answer{Holder: -2})
	printed(t, api.CmdQueue, api.Answer{Holder: -1, Shadow: 2}, "holder -1 2\n")
	printed(t, api.CmdQueue, api.Answer{}, "holder 0 0\n")
	refused(t, api.CmdQueue, api.Answer{Shadow: -1})
	refused(t, api.CmdQueue, api.Answer{Ranks: []api.Rank{{Job: -1}}})
	refused(t, api.CmdQueue, api.Answer{Ranks: []api.Rank{{}, {Priority: -1}}})
	printed(t, api.CmdQueue, api.Answer{Ranks: []api.Rank{{Job: 9, Priority: 1}, {Job: 9, Priority: 4}, {}}}, "holder 0 0\n9 1\n9 4\n0 0\n")
	refused(t, api.CmdTick, api.Answer{Holder: -1})
	refused(t, api.CmdJob, api.Answer{})
	refused(t, api.CmdJob, api.Answer{Job: api.Job{State: 7}})
	refused(t, api.CmdJob, api.Answer{Job: api.Job{State: -1}})
	for i, word := range []string{"pending", "running", "completed", "killed", "stopped", "dropped"} {
		printed(t, api.CmdJob, api.Answer{Job: api.Job{State: i + 1}}, "job 0 0 0 0 "+word+" 0 0\n")
	}
	printed(t, api.CmdJob, api.Answer{Job: api.Job{Account: 1, Nodes: 2, Limit: 3, Submit: 4, State: 4, Start: 5, End: 6, Set: []int{7, 9}}}, "job 1 2 3 4 killed 5 6 7 9\n")
	for _, set := range [][]int{{-1}, {0, 0}, {1, 0}, {0, 2, 2}} {
		refused(t, api.CmdJob, api.Answer{Job: api.Job{State: 2, Set: set}})
	}
	printed(t, api.CmdUsage, api.Answer{}, "usage 0 0 0\n")
	printed(t, api.CmdUsage, api.Answer{Raw: 1, Usage: math.MaxUint64, Factor: math.MaxUint64}, "usage 1 18446744073709551615 18446744073709551615\n")
	refused(t, api.CmdUsage, api.Answer{Raw: -1})
	refused(t, api.CmdConfig, api.Answer{Bound: -1})
	refused(t, api.CmdConfig, api.Answer{Config: api.Config{Half: -1}})
	refused(t, api.CmdNodes, api.Answer{Config: api.Config{Half: 1}})
	printed(t, api.CmdConfig, api.Answer{Config: api.Config{Nodes: 1, Queue: 2, Limit: 3, Age: 4, Fair: 5, Size: 6, Period: 7, Half: 8}, Bound: 9}, "config 1 2 3 4 5 6 7 8 9\n")
	refused(t, api.CmdSubmit, api.Answer{Id: -1})
	refused(t, api.CmdAccount, api.Answer{Id: -1})
	refused(t, api.CmdCancel, api.Answer{Id: 1})
	refused(t, api.CmdComplete, api.Answer{Free: 1})
	for _, kind := range []int{api.CmdShares, api.CmdMove, api.CmdClose} {
		printed(t, kind, api.Answer{}, "ok\n")
	}
	for kind := 1; kind <= 13; kind++ {
		a := answersOf(kind)[3]
		a.Events = []api.Event{{Kind: api.EvTick, At: -1}}
		refused(t, kind, a)
		a.Events = []api.Event{{Kind: api.EvTick, At: 1}}
		if e := Check(kind, a); (e == api.OK) != (kind <= api.CmdTick) {
			t.Error(kind, e)
		}
	}
}

func TestP93ParseRefuses(t *testing.T) {
	for _, x := range []struct {
		kind int
		text string
	}{
		{0, "ok\n"}, {14, "ok\n"}, {-1, "ok\n"}, {math.MaxInt, "error 1\n"}, {0, "error 1\n"}, {14, "error 1\n"}, {0, "\n"}, {0, ""}, {14, ""},
		{api.CmdTick, ""}, {api.CmdTick, "\n"}, {api.CmdTick, "ok"}, {api.CmdTick, "ok\n\n"}, {api.CmdTick, "\nok\n"}, {api.CmdTick, "ok\ntick 1"}, {api.CmdTick, "ok\ntick 1\n\n"},
		{api.CmdTick, "ok\ntick 01\n"}, {api.CmdTick, "ok\n\ntick 1\n"}, {api.CmdTick, "ok \n"}, {api.CmdTick, "OK\n"}, {api.CmdTick, "ok\r\n"}, {api.CmdTick, "tick 1\n"}, {api.CmdTick, "ok\nok\n"},
		{api.CmdTick, "error 0\n"}, {api.CmdTick, "error 1000\n"}, {api.CmdTick, "error -1\n"}, {api.CmdTick, "error 01\n"}, {api.CmdTick, "error\n"}, {api.CmdTick, "error 1 2\n"}, {api.CmdTick, "error 1\ntick 1\n"}, {api.CmdTick, "error 1"}, {api.CmdTick, "error 1\nerror 1\n"}, {api.CmdTick, "ok\nerror 1\n"},
		{api.CmdShares, "ok\ntick 1\n"}, {api.CmdShares, "ok\n\n"}, {api.CmdShares, "ok"}, {api.CmdShares, "ok 1\n"},
		{api.CmdSubmit, "ok\n"}, {api.CmdSubmit, "job\n"}, {api.CmdSubmit, "job -1\n"}, {api.CmdSubmit, "job 1 2\n"}, {api.CmdSubmit, "account 1\n"},
		{api.CmdAccount, "account 1\ntick 1\n"}, {api.CmdAccount, "job 1\n"}, {api.CmdAccount, "account 9223372036854775808\n"},
		{api.CmdJob, "job 1\n"}, {api.CmdJob, "job 1 2 3 4 5 6 7\n"}, {api.CmdJob, "job 1 2 3 4 killed 5\n"}, {api.CmdJob, "job 1 2 3 4 killed 5 6 7 7\n"}, {api.CmdJob, "job 1 2 3 4 killed 5 6 -1\n"}, {api.CmdJob, "job 1 2 3 4 Killed 5 6\n"}, {api.CmdJob, "job 1 2 3 4  5 6\n"}, {api.CmdJob, "job 1 2 3 4 killed 5 6 \n"},
		{api.CmdQueue, "holder -2 0\n"}, {api.CmdQueue, "holder -0 0\n"}, {api.CmdQueue, "holder 0 -1\n"}, {api.CmdQueue, "holder 1\n"}, {api.CmdQueue, "holder 1 2 3\n"}, {api.CmdQueue, "holder 1 2\n3\n"}, {api.CmdQueue, "holder 1 2\n3 4 5\n"}, {api.CmdQueue, "holder 1 2\n-1 4\n"}, {api.CmdQueue, "holder 1 2\n3 -4\n"}, {api.CmdQueue, "holder 1 2\n\n"}, {api.CmdQueue, "holder 1 2\ntick 1\n"},
		{api.CmdUsage, "usage 1 2\n"}, {api.CmdUsage, "usage 1 2 3 4\n"}, {api.CmdUsage, "usage 1 18446744073709551616 3\n"}, {api.CmdUsage, "usage 9223372036854775808 2 3\n"}, {api.CmdUsage, "usage 1 -2 3\n"}, {api.CmdUsage, "usage 1 2 03\n"}, {api.CmdUsage, "usage 1 +2 3\n"},
		{api.CmdNodes, "free\n"}, {api.CmdNodes, "free -1\n"}, {api.CmdNodes, "free 1 2\n"},
		{api.CmdConfig, "config 1 2 3 4 5 6 7 8\n"}, {api.CmdConfig, "config 1 2 3 4 5 6 7 8 9 10\n"}, {api.CmdConfig, "config 1 2 3 4 5 6 7 8 -9\n"},
	} {
		if a, code := Parse(x.kind, x.text); !same(a, api.Answer{}) || code != api.ErrAnswerForm {
			t.Errorf("Parse(%d, %q): %+v %d", x.kind, x.text, a, code)
		}
	}
}

func TestP93ParseOfSpoiledTexts(t *testing.T) {
	for kind := 1; kind <= 13; kind++ {
		for _, a := range answersOf(kind) {
			text, code := Print(kind, a)
			if code != api.OK {
				t.Fatalf("Print(%d, %+v): %d", kind, a, code)
			}
			for _, other := range kinds() {
				checkText(t, other, text)
			}
			for _, s := range spoiled(text) {
				checkText(t, kind, s)
			}
			for _, s := range otherLines(text) {
				checkText(t, kind, s)
			}
		}
	}
}

// otherLines are the text with a line more, one fewer, and one twice, at each place.
func otherLines(text string) []string {
	lines := strings.SplitAfter(strings.TrimSuffix(text, "\n"), "\n")
	lines[len(lines)-1] += "\n"
	var l []string
	for i := range lines {
		l = append(l, strings.Join(slices.Delete(slices.Clone(lines), i, i+1), ""))
		for _, more := range []string{"\n", " \n", "ok\n", "tick 1\n", "pass 1 2\n", "1 2\n", "error 1\n", "x\n", lines[i]} {
			l = append(l, strings.Join(slices.Insert(slices.Clone(lines), i, more), ""))
			l = append(l, strings.Join(slices.Insert(slices.Clone(lines), i+1, more), ""))
		}
	}
	return l
}

func TestP93EachByte(t *testing.T) {
	for _, text := range []string{"holder -1 0\n1 2\n", "job 4\ntick 3\n", "job 1 2 3 4 killed 5 6 7\n"} {
		for b := range 256 {
			for i := range len(text) {
				s := text[:i] + string([]byte{byte(b)}) + text[i+1:]
				checkText(t, api.CmdQueue, s)
				checkText(t, api.CmdSubmit, s)
				checkText(t, api.CmdJob, s)
			}
		}
	}
}

func TestP94ThereAndBackOfDrawnEvents(t *testing.T) {
	m := mixed(2)
	right := [8]int{}
	seen := map[string]api.Event{}
	for range 60000 {
		e := m.event()
		checkEvent(t, e)
		line, code := Event(e)
		if code != api.OK {
			continue
		}
		right[e.Kind]++
		if earlier, there := seen[line]; there && !same(earlier, e) {
			t.Fatalf("%q is the line of %+v and of %+v", line, earlier, e)
		}
		seen[line] = e
	}
	for kind := 1; kind <= 7; kind++ {
		if right[kind] < 2000 {
			t.Errorf("only %d of Kind %d may be", right[kind], kind)
		}
	}
}

func TestP94ThereAndBackOfDrawnAnswers(t *testing.T) {
	m := mixed(3)
	for kind := 1; kind <= 13; kind++ {
		right := 0
		seen := map[string]api.Answer{}
		for range 4000 {
			a := m.answer(kind)
			checkAnswer(t, kind, a)
			text, code := Print(kind, a)
			if code != api.OK {
				continue
			}
			right++
			if earlier, there := seen[text]; there && !same(earlier, a) {
				t.Fatalf("%q is the text of %+v and of %+v", text, earlier, a)
			}
			seen[text] = a
			checkText(t, kind, text)
		}
		if right < 500 {
			t.Errorf("only %d of kind %d may be", right, kind)
		}
	}
}

func TestP94DrawnTexts(t *testing.T) {
	words := []string{"ok", "job", "account", "holder", "usage", "free", "config", "error", "tick", "pass", "end", "killed", "pending", "0", "1", "2", "3", "-1", "01", ""}
	m := mixed(4)
	for range 60000 {
		text := ""
		for range m.below(4) {
			for i := range 1 + m.below(4) {
				text += []string{"", " "}[min(i, 1)] + words[m.below(len(words))]
			}
			text += "\n"
		}
		checkText(t, 1+m.below(13), text)
	}
}

func TestP95TextWithEvents(t *testing.T) {
	m := mixed(5)
	var drawn []api.Event
	for len(drawn) < 200 {
		if e := m.event(); Check(api.CmdTick, api.Answer{Events: []api.Event{e}}) == api.OK {
			drawn = append(drawn, e)
		}
	}
	for _, kind := range []int{api.CmdSubmit, api.CmdCancel, api.CmdComplete, api.CmdTick} {
		a := api.Answer{}
		if kind == api.CmdSubmit {
			a.Id = 7
		}
		bare, _ := Print(kind, a)
		for _, l := range [][]api.Event{nil, {}, events()[3:4], events(), drawn} {
			want := bare
			for _, e := range l {
				line, _ := Event(e)
				want += line + "\n"
			}
			a.Events = l
			printed(t, kind, a, want)
			if back, code := Parse(kind, want); code != api.OK || !same(back, a) {
				t.Errorf("Parse(%d, %q): %+v %d", kind, want, back, code)
			}
		}
	}
}

// TestManyLines: a long answer is written and read whole.
func TestManyLines(t *testing.T) {
	var a api.Answer
	for i := range 20000 {
		a.Events = append(a.Events, api.Event{Kind: api.EvStart, Job: i, At: i, List: []int{i, i + 1}})
	}
	long := api.Event{Kind: api.EvPass, At: 1}
	for i := range 100000 {
		long.List = append(long.List, i^1)
	}
	a.Events = append(a.Events, long)
	text, code := Print(api.CmdTick, a)
	if back, again := Parse(api.CmdTick, text); code != api.OK || again != api.OK || !same(back, a) {
		t.Fatal(code, again, len(text))
	}
}

// roomy is a list with spare room behind its end, in which something stands.
func roomy(l ...int) []int {
	all := append(slices.Clone(l), 77, 78, 79)
	return all[:len(l)]
}

func TestR3NilAndEmptyListsAreTheSame(t *testing.T) {
	for kind := 1; kind <= 13; kind++ {
		for _, a := range answersOf(kind) {
			b := a
			b.Events = append([]api.Event{}, a.Events...)
			b.Ranks = append([]api.Rank{}, a.Ranks...)
			b.Job.Set = append([]int{}, a.Job.Set...)
			for i := range b.Events {
				b.Events[i].List = append([]int{}, b.Events[i].List...)
			}
			one, _ := Print(kind, a)
			two, code := Print(kind, b)
			if one != two || code != api.OK {
				t.Errorf("Print(%d, %+v): %q %d, not %q", kind, b, two, code, one)
			}
		}
	}
}

func TestR4WhatIsHandedInIsLeftAlone(t *testing.T) {
	for _, list := range [][]int{roomy(1, 4), roomy(4, 1), roomy()} {
		for kind := range 15 {
			evs := []api.Event{{Kind: api.EvStart, Job: 1, At: 2, List: list}, {Kind: api.EvPass, List: list}, {Kind: 9}}
			ranks := []api.Rank{{Job: 3, Priority: 2}, {Job: 1, Priority: 1}, {Job: -1}}
			a := api.Answer{Events: evs[:2], Ranks: ranks[:2], Job: api.Job{State: 2, Set: list}}
			for _, one := range []api.Answer{a, {Events: a.Events}, {Ranks: a.Ranks}, {Job: a.Job}} {
				Check(kind, one)
				Print(kind, one)
				Event(evs[0])
				Event(evs[1])
			}
			all := list[:len(list)+3]
			if !slices.Equal(all[len(list):], []int{77, 78, 79}) || len(list) == 2 && list[0]+list[1] != 5 {
				t.Fatal(kind, all)
			}
			want := []api.Event{{Kind: api.EvStart, Job: 1, At: 2, List: list}, {Kind: api.EvPass, List: list}, {Kind: 9}}
			if !same(evs, want) || !same(ranks, []api.Rank{{Job: 3, Priority: 2}, {Job: 1, Priority: 1}, {Job: -1}}) {
				t.Fatal(kind, evs, ranks)
			}
		}
	}
}

// scribble writes over all that a list has room for.
func scribble[T any](l []T, x T) {
	l = l[:cap(l)]
	for i := range l {
		l[i] = x
	}
}

func TestR4AnswersAreNewMemory(t *testing.T) {
	const text = "ok\nstart 1 2 3 4\npass 5 6 7 8\nstart 2 2 5\n"
	want, _ := plainParse(api.CmdTick, text)
	a, _ := Parse(api.CmdTick, text)
	b, _ := Parse(api.CmdTick, text)
	scribble(a.Events[0].List, -1)
	if !same(a.Events[1:], want.Events[1:]) || !same(b, want) {
		t.Fatal(a, b)
	}
	scribble(a.Events, api.Event{Kind: 9})
	if c, _ := Parse(api.CmdTick, text); !same(b, want) || !same(c, want) {
		t.Fatal(b, c)
	}
	e, _ := ReadEvent("pass 1 2 3 4")
	f, _ := ReadEvent("pass 1 2 3 4")
	scribble(e.List, -1)
	if !slices.Equal(f.List, []int{2, 3, 4}) {
		t.Fatal(f)
	}
	j, _ := Parse(api.CmdJob, "job 1 2 3 4 killed 5 6 7 9\n")
	k, _ := Parse(api.CmdJob, "job 1 2 3 4 killed 5 6 7 9\n")
	scribble(j.Job.Set, -1)
	q, _ := Parse(api.CmdQueue, "holder 1 2\n3 4\n5 6\n")
	r, _ := Parse(api.CmdQueue, "holder 1 2\n3 4\n5 6\n")
	scribble(q.Ranks, api.Rank{})
	if !slices.Equal(k.Job.Set, []int{7, 9}) || !slices.Equal(r.Ranks, []api.Rank{{Job: 3, Priority: 4}, {Job: 5, Priority: 6}}) {
		t.Fatal(k, r)
	}
}

// TestR5SideBySide: what is asked elsewhere at the same time is not seen in an answer.
func TestR5SideBySide(t *testing.T) {
	var all sync.WaitGroup
	for worker := range 8 {
		all.Go(func() {
			m := mixed(100 + worker)
			for range 1500 {
				kind := 1 + m.below(13)
				a := m.answer(kind)
				want, wantCode := plainPrint(kind, a)
				text, code := Print(kind, a)
				back, _ := Parse(kind, text)
				if text != want || code != wantCode || code == api.OK && !same(back, a) {
					t.Errorf("%d %+v: %q %d", kind, a, text, code)
					return
				}
			}
		})
	}
	all.Wait()
}

// FuzzTexts: go test -fuzz FuzzTexts ./answers.
func FuzzTexts(f *testing.F) {
	for kind := 1; kind <= 13; kind++ {
		for _, a := range answersOf(kind) {
			text, _ := Print(kind, a)
			f.Add(kind, text)
		}
	}
	f.Fuzz(func(t *testing.T, kind int, text string) {
		checkText(t, kind, text)
		checkLine(t, text)
	})
}
