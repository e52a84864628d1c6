package verbs

import (
	"math"
	"math/big"
	"reflect"
	"slices"
	"strconv"
	"strings"
	"sync"
	"testing"

	"backfill/api"
)

// table is the chapter's, word by word, at each Kind's place.
var table = []string{
	"",
	"submit NAME NODES LIMIT",
	"cancel JOB",
	"complete JOB",
	"tick TICKS",
	"account NAME PARENT SHARES",
	"shares NAME SHARES",
	"move NAME PARENT",
	"close NAME",
	"job JOB",
	"queue",
	"usage NAME",
	"nodes",
	"config",
}

const signs = "abcdefghijklmnopqrstuvwxyzABCDEFGHIJKLMNOPQRSTUVWXYZ0123456789-_"

// The tests hold the package against a plain one that goes through the table's texts, and finds the fields by their names.

// row is a Kind's word, and the fields of api.Cmd behind it.
func row(kind int) (string, []string) {
	words := strings.Fields(table[kind])
	var fields []string
	for _, w := range words[1:] {
		fields = append(fields, w[:1]+strings.ToLower(w[1:]))
	}
	return words[0], fields
}

func isNameField(field string) bool { return field == "Name" || field == "Parent" }

func slot(c *api.Cmd, field string) reflect.Value {
	return reflect.ValueOf(c).Elem().FieldByName(field)
}

// otherFields are all of api.Cmd but the Kind.
func otherFields() []string {
	var l []string
	for _, f := range reflect.VisibleFields(reflect.TypeOf(api.Cmd{})) {
		if f.Name != "Kind" {
			l = append(l, f.Name)
		}
	}
	return l
}

func plainName(s string) bool {
	return len(s) > 0 && len(s) <= 32 && strings.Trim(s, signs) == ""
}

// plainNumber goes by digits alone, and takes no zero ahead of others.
func plainNumber(s string) (int, bool) {
	if s == "" || strings.Trim(s, "0123456789") != "" || len(s) > 1 && s[0] == '0' {
		return 0, false
	}
	n, _ := new(big.Int).SetString(s, 10)
	return int(n.Int64()), n.IsInt64()
}

// plainPieces cuts at each byte 32.
func plainPieces(line string) []string {
	l := []string{""}
	for i := range len(line) {
		if line[i] == 32 {
			l = append(l, "")
		} else {
			l[len(l)-1] += line[i : i+1]
		}
	}
	return l
}

func plainParse(line string) (api.Cmd, api.Errno) {
	if len(line) > 256 {
		return api.Cmd{}, 80
	}
	pieces := plainPieces(line)
	for kind := 1; kind <= 13; kind++ {
		word, fields := row(kind)
		if word != pieces[0] {
			continue
		}
		if len(pieces) != len(fields)+1 {
			return api.Cmd{}, 82
		}
		c := api.Cmd{Kind: kind}
		for i, f := range fields {
			n, isNumber := plainNumber(pieces[i+1])
			switch {
			case isNameField(f) && plainName(pieces[i+1]):
				slot(&c, f).SetString(pieces[i+1])
			case !isNameField(f) && isNumber:
				slot(&c, f).SetInt(int64(n))
			default:
				return api.Cmd{}, 83
			}
		}
		return c, 0
	}
	return api.Cmd{}, 81
}

func plainPrint(c api.Cmd) (string, api.Errno) {
	if c.Kind < 1 || c.Kind > 13 {
		return "", 84
	}
	line, fields := row(c.Kind)
	for _, f := range otherFields() {
		v := slot(&c, f)
		named := slices.Contains(fields, f)
		switch {
		case !named && !v.IsZero():
			return "", 84
		case named && isNameField(f) && !plainName(v.String()):
			return "", 84
		case named && !isNameField(f) && v.Int() < 0:
			return "", 84
		}
	}
	for _, f := range fields {
		if v := slot(&c, f); isNameField(f) {
			line += " " + v.String()
		} else {
			line += " " + strconv.FormatInt(v.Int(), 10)
		}
	}
	return line, 0
}

// sameParse holds one line against the plain package, and what it reads against Check and Print (P8.4).
func sameParse(t *testing.T, line string) {
	t.Helper()
	want, wantE := plainParse(line)
	c, e := Parse(line)
	if c != want || e != wantE {
		t.Errorf("Parse(%q) = %+v %d, not %+v %d", line, c, e, want, wantE)
	}
	if e != api.OK {
		return
	}
	if e := Check(c); e != api.OK {
		t.Errorf("Parse(%q) is %+v, which Check refuses: %d", line, c, e)
	}
	if back, e := Print(c); back != line || e != api.OK {
		t.Errorf("Parse(%q) is %+v, which is printed %q %d", line, c, back, e)
	}
}

// samePrint holds one command against the plain package, and what is written of it against Parse (P8.4).
func samePrint(t *testing.T, c api.Cmd) {
	t.Helper()
	want, wantE := plainPrint(c)
	line, e := Print(c)
	if line != want || e != wantE {
		t.Errorf("Print(%+v) = %q %d, not %q %d", c, line, e, want, wantE)
	}
	if e := Check(c); e != wantE {
		t.Errorf("Check(%+v) = %d, not %d", c, e, wantE)
	}
	if e != api.OK {
		return
	}
	if back, e := Parse(line); back != c || e != api.OK {
		t.Errorf("Print(%+v) is %q, which is read %+v %d", c, line, back, e)
	}
}

func refused(t *testing.T, line string, want api.Errno) {
	t.Helper()
	if c, e := Parse(line); c != (api.Cmd{}) || e != want {
		t.Errorf("Parse(%q) = %+v %d, not nothing and %d", line, c, e, want)
	}
}

func refusedCmd(t *testing.T, c api.Cmd) {
	t.Helper()
	if e := Check(c); e != api.ErrVerbCmd {
		t.Errorf("Check(%+v) = %d", c, e)
	}
	if line, e := Print(c); line != "" || e != api.ErrVerbCmd {
		t.Errorf("Print(%+v) = %q %d", c, line, e)
	}
}

// mixed goes through numbers without an order, always the same ones.
func mixed(seed uint64) uint64 {
	seed += 0x9e3779b97f4a7c15
	seed = (seed ^ seed>>30) * 0xbf58476d1ce4e5b9
	seed = (seed ^ seed>>27) * 0x94d049bb133111eb
	return seed ^ seed>>31
}

func drawnName(seed uint64) string {
	var s strings.Builder
	for i := range 1 + mixed(seed)%32 {
		s.WriteByte(signs[mixed(seed+i*1000003)%uint64(len(signs))])
	}
	return s.String()
}

func drawnNumber(seed uint64) int { return int(mixed(seed) >> (1 + mixed(seed+1)%63)) }

// drawnCmd is one that may be written.
func drawnCmd(kind int, seed uint64) api.Cmd {
	c := api.Cmd{Kind: kind}
	_, fields := row(kind)
	for i, f := range fields {
		at := seed*31 + uint64(i)*7919
		if isNameField(f) {
			slot(&c, f).SetString(drawnName(at))
		} else {
			slot(&c, f).SetInt(int64(drawnNumber(at)))
		}
	}
	return c
}

// lineWith is a right line of a Kind, but with this piece in the place of a field.
func lineWith(kind int, field, piece string) string {
	line, fields := row(kind)
	for i, f := range fields {
		switch {
		case f == field:
			line += " " + piece
		case isNameField(f):
			line += " n" + strconv.Itoa(i)
		default:
			line += " " + strconv.Itoa(10+i)
		}
	}
	return line
}

func rightLine(kind int) string { return lineWith(kind, "", "") }

func eachField(do func(kind int, field string)) {
	for kind := 1; kind <= 13; kind++ {
		_, fields := row(kind)
		for _, f := range fields {
			do(kind, f)
		}
	}
}

// rightNames and wrongNames are written out, so that they lean on no rule of the tests.
func rightNames() []string {
	return []string{
		"a", "z", "A", "Z", "0", "9", "-", "_", "root", "a-B_9", "--", "__", "-1", "007", "submit", "tick",
		strings.Repeat("a", 31), strings.Repeat("a", 32), strings.Repeat("-", 32), strings.Repeat("9", 32),
	}
}

func wrongNames() []string {
	return []string{
		"", ".", "a.b", "a/", "@", "[", "`", "{", "/", ":", ",", "^", "~", "+1", "a\t", "\ta", "a\n", "\r", "\x00", "a\x00", "\x7f", "\x80", "\xff",
		"ä", "aä", "é1", "α", "ａ", "a\u00a0", "a\u200b", "\u2212", "\xc3", strings.Repeat("a", 33), strings.Repeat("a", 34), strings.Repeat("a", 64),
		strings.Repeat("a", 32) + ".", "." + strings.Repeat("a", 31), strings.Repeat("a", 31) + ".", strings.Repeat("ä", 16),
	}
}

func rightNumbers() map[string]int {
	return map[string]int{
		"0": 0, "1": 1, "9": 9, "10": 10, "99": 99, "100": 100, "256": 256, "4294967296": 1 << 32,
		"999999999999999999": 999999999999999999, "1000000000000000000": 1000000000000000000,
		"9223372036854775806": math.MaxInt64 - 1, "9223372036854775807": math.MaxInt64,
	}
}

func wrongNumbers() []string {
	return []string{
		"", "00", "01", "010", "0000", "09223372036854775807", "00000000000000000000001", "-0", "-1", "+0", "+1", "-9223372036854775808", "-9223372036854775809", "--1",
		"9223372036854775808", "9223372036854775809", "9223372036854775810", "9999999999999999999", "10000000000000000000", "18446744073709551615",
		"18446744073709551616", "18446744073709551617", "92233720368547758070", "99999999999999999999999999999999", strings.Repeat("9", 200),
		"-", "+", "_", "a", "1a", "a1", "1a1", "1.0", "1.", ".1", "1e3", "0x10", "0b1", "0o7", "1_000", "1,000", "1-", "1+", "1-1", "½", "²", "١", "１", "1\t", "\t1", "1\n", "1\x00", "\x001", "1\r", "\xff", "\x80", "/", ":", "inf",
	}
}

// otherBlanks are signs that one might take for a blank.
func otherBlanks() []string {
	return []string{"\t", "\n", "\v", "\f", "\r", "\r\n", "\x00", "\x1f", "!", "\x85", "\xa0", "\u0085", "\u00a0", "\u1680", "\u2003", "\u2028", "\u202f", "\u3000", "\ufeff", ",", "_"}
}

func TestP81ValidByLength(t *testing.T) {
	for n := range 300 {
		for _, sign := range []string{"a", "Z", "5", "-", "_"} {
			if got := Valid(strings.Repeat(sign, n)); got != (n >= 1 && n <= 32) {
				t.Errorf("Valid of %d times %s is %v", n, sign, got)
			}
		}
	}
	for _, n := range []int{1 << 8, 1<<8 + 1, 1<<8 + 32, 1 << 16, 1<<16 + 1, 1 << 20} {
		if Valid(strings.Repeat("a", n)) {
			t.Errorf("Valid of %d letters", n)
		}
	}
}

func TestP81ValidOfEachByte(t *testing.T) {
	right := 0
	for b := range 256 {
		sign := string([]byte{byte(b)})
		want := strings.Contains(signs, sign)
		if want {
			right++
		}
		for _, around := range [][2]string{{"", ""}, {"a", ""}, {"", "a"}, {"a", "Z"}, {"-", "_"}, {strings.Repeat("x", 31), ""}, {"", strings.Repeat("x", 31)}, {strings.Repeat("0", 15), strings.Repeat("9", 16)}} {
			if name := around[0] + sign + around[1]; Valid(name) != want {
				t.Errorf("Valid(%q) is %v", name, !want)
			}
		}
		if name := strings.Repeat("x", 32) + sign; Valid(name) {
			t.Errorf("Valid(%q), of 33 bytes", name)
		}
	}
	if right != 64 {
		t.Errorf("%d bytes may stand in a name", right)
	}
}

func TestP81ValidOfTexts(t *testing.T) {
	for _, name := range rightNames() {
		if !Valid(name) {
			t.Errorf("not Valid(%q)", name)
		}
	}
	for _, name := range wrongNames() {
		if Valid(name) {
			t.Errorf("Valid(%q)", name)
		}
	}
	// A length is one of bytes: these are 32 and fewer signs, none of them one byte.
	for _, name := range []string{"ä", strings.Repeat("ä", 32), strings.Repeat("世", 10), "a b", " a", "a ", " "} {
		if Valid(name) {
			t.Errorf("Valid(%q)", name)
		}
	}
}

func TestP82EachLine(t *testing.T) {
	for _, x := range []struct {
		line string
		want api.Cmd
	}{
		{"submit a 2 5", api.Cmd{Kind: api.CmdSubmit, Name: "a", Nodes: 2, Limit: 5}},
		{"cancel 7", api.Cmd{Kind: api.CmdCancel, Job: 7}},
		{"complete 8", api.Cmd{Kind: api.CmdComplete, Job: 8}},
		{"tick 3", api.Cmd{Kind: api.CmdTick, Ticks: 3}},
		{"account b root 1", api.Cmd{Kind: api.CmdAccount, Name: "b", Parent: "root", Shares: 1}},
		{"shares b 9", api.Cmd{Kind: api.CmdShares, Name: "b", Shares: 9}},
		{"move b c", api.Cmd{Kind: api.CmdMove, Name: "b", Parent: "c"}},
		{"close b", api.Cmd{Kind: api.CmdClose, Name: "b"}},
		{"job 11", api.Cmd{Kind: api.CmdJob, Job: 11}},
		{"queue", api.Cmd{Kind: api.CmdQueue}},
		{"usage b", api.Cmd{Kind: api.CmdUsage, Name: "b"}},
		{"nodes", api.Cmd{Kind: api.CmdNodes}},
		{"config", api.Cmd{Kind: api.CmdConfig}},
		// What no machine has is still a command: whether it may be done is not told here.
		{"submit root 0 0", api.Cmd{Kind: api.CmdSubmit, Name: "root"}},
		{"submit 0 1 2", api.Cmd{Kind: api.CmdSubmit, Name: "0", Nodes: 1, Limit: 2}},
		{"account a a 4097", api.Cmd{Kind: api.CmdAccount, Name: "a", Parent: "a", Shares: 4097}},
		{"close close", api.Cmd{Kind: api.CmdClose, Name: "close"}},
		{"tick 0", api.Cmd{Kind: api.CmdTick}},
	} {
		if c, e := Parse(x.line); c != x.want || e != api.OK {
			t.Errorf("Parse(%q) = %+v %d", x.line, c, e)
		}
		if line, e := Print(x.want); line != x.line || e != api.OK {
			t.Errorf("Print(%+v) = %q %d", x.want, line, e)
		}
		if e := Check(x.want); e != api.OK {
			t.Errorf("Check(%+v) = %d", x.want, e)
		}
	}
}

func TestP82Long(t *testing.T) {
	fill := func(line, with string, n int) string { return line + strings.Repeat(with, n)[:n-len(line)] }
	for _, x := range []struct {
		line, with string
		short      api.Errno
	}{
		{"", "a", api.ErrVerbWord}, {"tick", "k", api.ErrVerbWord}, {"", " ", api.ErrVerbWord}, {"", "\xff", api.ErrVerbWord}, {"", "ä", api.ErrVerbWord},
		{"queue", " ", api.ErrVerbMany}, {"queue ", "a", api.ErrVerbMany}, {"tick", " 1", api.ErrVerbMany}, {"tick ", " ", api.ErrVerbMany},
		{"tick ", "1", api.ErrVerbField}, {"tick ", "0", api.ErrVerbField}, {"usage ", "a", api.ErrVerbField}, {"submit a 1 ", "1", api.ErrVerbField},
	} {
		for _, n := range []int{128, 254, 255, 256} {
			refused(t, fill(x.line, x.with, n), x.short)
		}
		for _, n := range []int{257, 258, 300, 512, 513, 1 << 16, 1<<16 + 5} {
			refused(t, fill(x.line, x.with, n), api.ErrVerbLong)
		}
	}
	longest := "account " + strings.Repeat("a", 32) + " " + strings.Repeat("b", 32) + " 9223372036854775807"
	want := api.Cmd{Kind: api.CmdAccount, Name: strings.Repeat("a", 32), Parent: strings.Repeat("b", 32), Shares: math.MaxInt64}
	if c, e := Parse(longest); c != want || e != api.OK {
		t.Errorf("the longest line is read %+v %d", c, e)
	}
}

func TestP82Word(t *testing.T) {
	for kind := 1; kind <= 13; kind++ {
		word, _ := row(kind)
		behind := strings.TrimPrefix(rightLine(kind), word)
		refused(t, strings.ToUpper(word)+behind, api.ErrVerbWord)
		for i := range len(word) {
			refused(t, word[:i]+strings.ToUpper(word[i:i+1])+word[i+1:]+behind, api.ErrVerbWord)
			refused(t, word[:i]+word[i+1:]+behind, api.ErrVerbWord)
			refused(t, word[:i]+behind, api.ErrVerbWord)
			refused(t, word[i+1:]+behind, api.ErrVerbWord)
			refused(t, word[:i]+" "+word[i:]+behind, api.ErrVerbWord)
			for b := range 256 {
				sign := string([]byte{byte(b)})
				sameParse(t, word[:i]+sign+word[i+1:]+behind)
				sameParse(t, word[:i]+sign+word[i:]+behind)
			}
		}
		for b := range 256 {
			if b != ' ' {
				refused(t, word+string([]byte{byte(b)})+behind, api.ErrVerbWord)
			}
		}
		refused(t, word+word+behind, api.ErrVerbWord)
		refused(t, strings.TrimPrefix(behind, " "), api.ErrVerbWord)
		refused(t, behind, api.ErrVerbWord)
		refused(t, strconv.Itoa(kind)+behind, api.ErrVerbWord)
		refused(t, "x "+rightLine(kind), api.ErrVerbWord)
	}
	for _, line := range []string{"", " ", "  ", strings.Repeat(" ", 256), "\t", "\n", "\x00", "1", "a", "help", "jobs", "node", "root", "tock 1", "ok", "error 80", "# x", "pending", "start 1 2", "NAME", "none"} {
		refused(t, line, api.ErrVerbWord)
	}
}

func TestP82Many(t *testing.T) {
	for kind := 1; kind <= 13; kind++ {
		line := rightLine(kind)
		pieces := strings.Split(line, " ")
		for n := 1; n < len(pieces); n++ {
			refused(t, strings.Join(pieces[:n], " "), api.ErrVerbMany)
		}
		for _, more := range []string{" 1", " a", " ", "  ", " a 1", " \t", " \n", " .", " " + line, strings.Repeat(" 1", 50)} {
			refused(t, line+more, api.ErrVerbMany)
		}
		for i, b := range []byte(line) {
			if b == ' ' {
				refused(t, line[:i]+" "+line[i:], api.ErrVerbMany)
			}
		}
		refused(t, " "+line, api.ErrVerbWord)
		refused(t, "  "+line, api.ErrVerbWord)
	}
}

func TestP82OtherBlanks(t *testing.T) {
	for kind := 1; kind <= 13; kind++ {
		line := rightLine(kind)
		word, fields := row(kind)
		for _, sign := range otherBlanks() {
			refused(t, sign+line, api.ErrVerbWord)
			if len(fields) == 0 {
				refused(t, line+sign, api.ErrVerbWord)
				continue
			}
			refused(t, word+sign+line[len(word)+1:], api.ErrVerbWord)
			sameParse(t, line+sign)
			for i := len(word) + 1; i < len(line); i++ {
				if line[i] == ' ' {
					refused(t, line[:i]+sign+line[i+1:], api.ErrVerbMany)
				}
			}
			// An underline is no blank, but it is a name's.
			if sign != "_" {
				refused(t, line+sign, api.ErrVerbField)
				refused(t, line[:len(word)+1]+sign+line[len(word)+1:], api.ErrVerbField)
			}
		}
	}
}

func TestP82Numbers(t *testing.T) {
	eachField(func(kind int, field string) {
		if isNameField(field) {
			return
		}
		for piece, n := range rightNumbers() {
			line := lineWith(kind, field, piece)
			c, e := Parse(line)
			if got := slot(&c, field).Int(); got != int64(n) || c.Kind != kind || e != api.OK {
				t.Errorf("Parse(%q) = %+v %d", line, c, e)
			}
			sameParse(t, line)
		}
		for _, piece := range wrongNumbers() {
			refused(t, lineWith(kind, field, piece), api.ErrVerbField)
		}
		for b := range 256 {
			sign := string([]byte{byte(b)})
			isDigit := b >= '0' && b <= '9'
			for _, piece := range []string{sign, "1" + sign, "1" + sign + "1", "12" + sign} {
				if line := lineWith(kind, field, piece); !isDigit && b != ' ' {
					refused(t, line, api.ErrVerbField)
				} else {
					sameParse(t, line)
				}
			}
			if piece := sign + "1"; !isDigit && b != ' ' || b == '0' {
				refused(t, lineWith(kind, field, piece), api.ErrVerbField)
			}
		}
	})
}

func TestP82Names(t *testing.T) {
	eachField(func(kind int, field string) {
		if !isNameField(field) {
			return
		}
		for _, piece := range rightNames() {
			line := lineWith(kind, field, piece)
			c, e := Parse(line)
			if got := slot(&c, field).String(); got != piece || c.Kind != kind || e != api.OK {
				t.Errorf("Parse(%q) = %+v %d", line, c, e)
			}
			sameParse(t, line)
		}
		for _, piece := range wrongNames() {
			refused(t, lineWith(kind, field, piece), api.ErrVerbField)
		}
		for b := range 256 {
			sign := string([]byte{byte(b)})
			for _, piece := range []string{sign, "a" + sign, sign + "a", "a" + sign + "a", strings.Repeat("x", 31) + sign, strings.Repeat("x", 32) + sign} {
				sameParse(t, lineWith(kind, field, piece))
			}
		}
		for n := range 40 {
			sameParse(t, lineWith(kind, field, strings.Repeat("q", n)))
		}
	})
}

// Numbers are names too; a name with a letter is no number.
func TestP82FieldsAreNotTakenForEachOther(t *testing.T) {
	refused(t, "submit 1 a 1", api.ErrVerbField)
	refused(t, "submit 1 1 a", api.ErrVerbField)
	refused(t, "submit 2 5 a", api.ErrVerbField)
	refused(t, "account 1 root a", api.ErrVerbField)
	refused(t, "account a 1 root", api.ErrVerbField)
	refused(t, "shares 1 a", api.ErrVerbField)
	refused(t, "job a", api.ErrVerbField)
	if c, e := Parse("move 1 01"); c != (api.Cmd{Kind: api.CmdMove, Name: "1", Parent: "01"}) || e != api.OK {
		t.Error(c, e)
	}
	if c, e := Parse("submit 3 4 5"); c != (api.Cmd{Kind: api.CmdSubmit, Name: "3", Nodes: 4, Limit: 5}) || e != api.OK {
		t.Error(c, e)
	}
	if c, e := Parse("account 6 7 8"); c != (api.Cmd{Kind: api.CmdAccount, Name: "6", Parent: "7", Shares: 8}) || e != api.OK {
		t.Error(c, e)
	}
}

func TestP82WhichErrorIsFirst(t *testing.T) {
	behind := strings.Repeat(" ", 260)
	for line, want := range map[string]api.Errno{
		// Too long, and no word, too many pieces, and wrong ones.
		"tock" + behind:                         api.ErrVerbLong,
		"tick" + behind:                         api.ErrVerbLong,
		"tick -1" + behind:                      api.ErrVerbLong,
		"tick " + strings.Repeat("x", 256):      api.ErrVerbLong,
		"queue" + strings.Repeat(" .", 126):     api.ErrVerbLong,
		"queue" + strings.Repeat(" .", 125):     api.ErrVerbMany,
		"queues" + strings.Repeat(" .", 125):    api.ErrVerbWord,
		"tick " + strings.Repeat("x", 251):      api.ErrVerbField,
		"submit . . " + strings.Repeat(".", 24): api.ErrVerbField,
		// No word, and too many or too few pieces, and wrong ones.
		"tock":         api.ErrVerbWord,
		"tock 1 2":     api.ErrVerbWord,
		"Queue 1":      api.ErrVerbWord,
		"tock -1":      api.ErrVerbWord,
		"SUBMIT . - .": api.ErrVerbWord,
		" submit a":    api.ErrVerbWord,
		// Too many or too few pieces, and wrong ones.
		"tick -1 2":       api.ErrVerbMany,
		"tick 1 -2":       api.ErrVerbMany,
		"tick x y":        api.ErrVerbMany,
		"submit .":        api.ErrVerbMany,
		"submit . x":      api.ErrVerbMany,
		"submit a x y z":  api.ErrVerbMany,
		"account . 1":     api.ErrVerbMany,
		"usage  .":        api.ErrVerbMany,
		"queue .":         api.ErrVerbMany,
		"move ":           api.ErrVerbMany,
		"shares a.b 01 1": api.ErrVerbMany,
		// Several wrong ones.
		"submit . x y":  api.ErrVerbField,
		"submit   ":     api.ErrVerbField,
		"account   ":    api.ErrVerbField,
		"account . . .": api.ErrVerbField,
		"move  ":        api.ErrVerbField,
	} {
		refused(t, line, want)
		sameParse(t, line)
	}
}

// With each piece wrong in turn the other fields have been read, and nothing of them is told.
func TestP82RefusedTellsNothing(t *testing.T) {
	eachField(func(kind int, field string) { refused(t, lineWith(kind, field, "."), api.ErrVerbField) })
}

func TestP82FieldsNotNamedAreZero(t *testing.T) {
	for kind := 1; kind <= 13; kind++ {
		_, fields := row(kind)
		c, e := Parse(rightLine(kind))
		if c.Kind != kind || e != api.OK {
			t.Errorf("Parse(%q) = %+v %d", rightLine(kind), c, e)
		}
		for _, f := range otherFields() {
			if named := slices.Contains(fields, f); slot(&c, f).IsZero() == named {
				t.Errorf("Parse(%q) = %+v: its %s", rightLine(kind), c, f)
			}
		}
	}
}

func TestP82AlmostRightLines(t *testing.T) {
	for kind := 1; kind <= 13; kind++ {
		for seed := range uint64(40) {
			line, _ := plainPrint(drawnCmd(kind, seed))
			sameParse(t, line)
			at := int(mixed(seed) % uint64(len(line)))
			for b := range 256 {
				sign := string([]byte{byte(b)})
				sameParse(t, line[:at]+sign+line[at:])
				sameParse(t, line[:at]+sign+line[at+1:])
			}
			sameParse(t, line[:at]+line[at+1:])
			sameParse(t, line[:at])
			sameParse(t, line[at:])
		}
	}
}

func TestP83Kinds(t *testing.T) {
	for _, kind := range []int{0, 14, 15, -1, -2, -13, -14, 27, 256, 257, 1<<8 + 1, 1<<32 + 1, 1<<32 + 13, math.MaxInt, math.MaxInt - 1, math.MinInt, math.MinInt + 1, math.MinInt + 10} {
		refusedCmd(t, api.Cmd{Kind: kind})
		refusedCmd(t, api.Cmd{Kind: kind, Name: "a", Parent: "b", Shares: 1, Nodes: 1, Limit: 1, Job: 1, Ticks: 1})
		for seed := range 13 {
			c := drawnCmd(seed+1, 5)
			c.Kind = kind
			refusedCmd(t, c)
		}
	}
	for kind := -3; kind <= 17; kind++ {
		samePrint(t, api.Cmd{Kind: kind})
	}
	for kind := 1; kind <= 13; kind++ {
		c := drawnCmd(kind, 3)
		if e := Check(c); e != api.OK {
			t.Errorf("Check(%+v) = %d", c, e)
		}
		samePrint(t, c)
	}
}

// A command of one Kind with the fields of another is refused, unless its Kind has them all, and lacks none but numbers, which are 0 then.
func TestP83FieldsOfAnotherKind(t *testing.T) {
	for kind := 1; kind <= 13; kind++ {
		_, fields := row(kind)
		for other := 1; other <= 13; other++ {
			_, others := row(other)
			c, _ := plainParse(rightLine(other))
			c.Kind = kind
			may := true
			for _, f := range otherFields() {
				here, there := slices.Contains(fields, f), slices.Contains(others, f)
				may = may && (here == there || here && !isNameField(f))
			}
			if (Check(c) == api.OK) != may {
				t.Errorf("Check(%+v) = %d", c, Check(c))
			}
			samePrint(t, c)
		}
	}
}

func TestP83EachFieldInTurn(t *testing.T) {
	for kind := 1; kind <= 13; kind++ {
		_, fields := row(kind)
		for _, f := range otherFields() {
			c := drawnCmd(kind, 9)
			named := slices.Contains(fields, f)
			if isNameField(f) {
				namesInTurn(t, c, f, named)
			} else {
				numbersInTurn(t, c, f, named)
			}
		}
	}
}

func namesInTurn(t *testing.T, c api.Cmd, field string, named bool) {
	t.Helper()
	for _, name := range rightNames() {
		slot(&c, field).SetString(name)
		if !named {
			refusedCmd(t, c)
		}
		samePrint(t, c)
	}
	for _, name := range append(wrongNames(), " ", "a b", " a", "a ", "a 1", "a b 1", "\n", strings.Repeat("a", 1000)) {
		slot(&c, field).SetString(name)
		if named || name != "" {
			refusedCmd(t, c)
		}
		samePrint(t, c)
	}
	for b := range 256 {
		slot(&c, field).SetString("a" + string([]byte{byte(b)}))
		samePrint(t, c)
	}
}

func numbersInTurn(t *testing.T, c api.Cmd, field string, named bool) {
	t.Helper()
	for _, n := range rightNumbers() {
		slot(&c, field).SetInt(int64(n))
		if !named && n != 0 {
			refusedCmd(t, c)
		}
		samePrint(t, c)
	}
	for _, n := range []int{-1, -2, -9, -10, -1 << 31, -1 << 32, math.MinInt64 + 1, math.MinInt64} {
		slot(&c, field).SetInt(int64(n))
		refusedCmd(t, c)
		samePrint(t, c)
	}
}

func TestP83PrintsNumbersWithoutMore(t *testing.T) {
	for n, want := range map[int]string{0: "tick 0", 9: "tick 9", 10: "tick 10", 1 << 32: "tick 4294967296", math.MaxInt64: "tick 9223372036854775807"} {
		if line, e := Print(api.Cmd{Kind: api.CmdTick, Ticks: n}); line != want || e != api.OK {
			t.Errorf("Print of a tick of %d = %q %d", n, line, e)
		}
	}
}

func TestP84ThereAndBack(t *testing.T) {
	for kind := 1; kind <= 13; kind++ {
		for seed := range uint64(500) {
			c := drawnCmd(kind, seed)
			line, e := Print(c)
			if e != api.OK {
				t.Errorf("Print(%+v) refuses: %d", c, e)
			}
			back, e := Parse(line)
			if back != c || e != api.OK {
				t.Errorf("%+v is printed %q, and read %+v %d", c, line, back, e)
			}
			again, e := Print(back)
			if again != line || e != api.OK {
				t.Errorf("%q is read %+v, and printed %q %d", line, back, again, e)
			}
			samePrint(t, c)
		}
	}
}

// No two commands have one line: that is what there and back says, shown on those that are near each other.
func TestP84LinesAreOneCommands(t *testing.T) {
	lines := map[string]api.Cmd{}
	for kind := 1; kind <= 13; kind++ {
		_, fields := row(kind)
		for n := range 125 {
			c := api.Cmd{Kind: kind}
			for i, f := range fields {
				at := []int{n % 5, n / 5 % 5, n / 25}[i]
				if isNameField(f) {
					slot(&c, f).SetString([]string{"a", "1", "a1", "1a", "11"}[at])
				} else {
					slot(&c, f).SetInt([]int64{0, 1, 10, 11, 111}[at])
				}
			}
			line, e := Print(c)
			if e != api.OK {
				t.Errorf("Print(%+v) refuses: %d", c, e)
			}
			if other, there := lines[line]; there && other != c {
				t.Errorf("%q is the line of %+v and of %+v", line, c, other)
			}
			lines[line] = c
		}
	}
}

// R1: any bytes whatever end in an answer, and it is the plain one's.
func TestR1AnyBytes(t *testing.T) {
	const some = " \t\n019-+_.azAZ\x00\x80\xff"
	for seed := range uint64(20000) {
		var s strings.Builder
		if word, _ := row(int(1 + mixed(seed+77)%13)); seed%3 != 0 {
			s.WriteString(word)
		}
		for i := range mixed(seed) % 24 {
			n := mixed(seed*64 + i)
			if seed%2 == 0 {
				s.WriteByte(byte(n))
			} else {
				s.WriteByte(some[n%uint64(len(some))])
			}
		}
		sameParse(t, s.String())
		if Valid(s.String()) != plainName(s.String()) {
			t.Errorf("Valid(%q) is %v", s.String(), Valid(s.String()))
		}
	}
}

func TestR1AnyCommand(t *testing.T) {
	for seed := range uint64(20000) {
		c := api.Cmd{Kind: int(mixed(seed)%17) - 1}
		for i, f := range otherFields() {
			at := mixed(seed*16 + uint64(i))
			if at%3 != 0 {
				continue
			}
			if isNameField(f) {
				slot(&c, f).SetString(append(rightNames(), wrongNames()...)[mixed(at)%uint64(len(rightNames())+len(wrongNames()))])
			} else {
				slot(&c, f).SetInt(int64(mixed(at)))
			}
		}
		samePrint(t, c)
	}
}

// R4, R5: nothing is kept from call to call, not beside others either, and what is read stays as it was when the next line is read.
func TestR5OneAnswer(t *testing.T) {
	first, _ := Parse("submit abc 2 5")
	kept := first
	var all sync.WaitGroup
	for kind := 1; kind <= 13; kind++ {
		all.Go(func() {
			for seed := range uint64(50) {
				samePrint(t, drawnCmd(kind, seed))
				sameParse(t, rightLine(kind)+" .")
				samePrint(t, api.Cmd{Kind: kind, Ticks: -1})
			}
		})
	}
	all.Wait()
	if again, e := Parse("submit abc 2 5"); first != kept || again != first || e != api.OK {
		t.Error(first, again, e)
	}
}

// R4: a line made of bytes that change behind it does not change what was read of it.
func TestR4ReadLineStays(t *testing.T) {
	b := []byte("account abc root 7")
	c, e := Parse(string(b))
	for i := range b {
		b[i] = 'x'
	}
	if c != (api.Cmd{Kind: api.CmdAccount, Name: "abc", Parent: "root", Shares: 7}) || e != api.OK {
		t.Error(c, e)
	}
}

func TestExamples(t *testing.T) {
	for line, want := range map[string]api.Cmd{
		"submit a 2 5":     {Kind: api.CmdSubmit, Name: "a", Nodes: 2, Limit: 5},
		"account b root 1": {Kind: api.CmdAccount, Name: "b", Parent: "root", Shares: 1},
		"queue":            {Kind: api.CmdQueue},
	} {
		if c, e := Parse(line); c != want || e != api.OK {
			t.Errorf("Parse(%q) = %+v %d", line, c, e)
		}
	}
	for want, lines := range map[api.Errno][]string{
		api.ErrVerbWord:  {"", "Tick 1", " tick 1"},
		api.ErrVerbMany:  {"tick", "tick 1 2", "tick  1", "queue "},
		api.ErrVerbField: {"tick 01", "tick -1", "tick 9223372036854775808", "usage a.b", "submit a 1 "},
	} {
		for _, line := range lines {
			refused(t, line, want)
		}
	}
	if line, e := Print(api.Cmd{Kind: api.CmdTick, Ticks: 3}); line != "tick 3" || e != api.OK {
		t.Errorf("%q %d", line, e)
	}
	refusedCmd(t, api.Cmd{Kind: api.CmdTick, Ticks: 3, Job: 1})
	refusedCmd(t, api.Cmd{Kind: api.CmdTick, Ticks: -1})
	refusedCmd(t, api.Cmd{Kind: 14})
	for name, want := range map[string]bool{"a-B_9": true, "": false, strings.Repeat("a", 33): false, "a b": false} {
		if Valid(name) != want {
			t.Errorf("Valid(%q) is %v", name, !want)
		}
	}
}
