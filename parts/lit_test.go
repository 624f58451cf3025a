package parts_test

import (
	"math/rand"
	"strconv"
	"strings"
	"testing"

	"pergola/api"
	"pergola/parts"
)

// P8.5: literals of one token, and variables.
func TestLeaves(t *testing.T) {
	for _, constant := range []bool{false, true} {
		wantLit(t, "1", constant, 0, "i1@1:1 ")
		wantLit(t, " -0", constant, 0, "i-0@1:2 ")
		wantLit(t, "123456789012345678901234567890", constant, 0, "i123456789012345678901234567890@1:1 ")
		wantLit(t, "-0.5e1", constant, 0, "f-0.5e1@1:1 ")
		wantLit(t, "1E+999", constant, 0, "f1E+999@1:1 ")
		wantLit(t, "\"\"", constant, 0, "s\"\"@1:1 ")
		wantLit(t, "\n\"a\\u0041\"", constant, 0, "s\"aA\"@2:1 ")
		wantLit(t, "\"\"\" a\"\"\"", constant, 0, "k\" a\"@1:1 ")
		wantLit(t, "\"\"\"\n a\n  b\n\"\"\"", constant, 0, "k\"a\\n b\"@1:1 ")
		wantLit(t, "\"\"\"\"\"\"", constant, 0, "k\"\"@1:1 ")
		wantLit(t, "true", constant, 0, "btrue@1:1 ")
		wantLit(t, "false", constant, 0, "bfalse@1:1 ")
		wantLit(t, "null", constant, 0, "null@1:1 ")
		for _, word := range []string{"on", "TRUE", "True", "False", "NULL", "Null", "tru", "truee", "nulls", "fals", "query", "_", "__a"} {
			wantLit(t, word, constant, 0, "e"+word+"@1:1 ")
		}
	}
	for _, word := range []string{"a", "true", "false", "null", "on", "_"} {
		wantLit(t, "$"+word, false, 0, "$"+word+"@1:1 ")
		wantLit(t, " $ # a\n,"+word, false, 0, "$"+word+"@1:2 ")
		wantLit(t, "$"+word, true, 0, "syntax 1:1")
	}
}

// P8.5: lists and objects, with the chapter's example.
func TestListsAndObjects(t *testing.T) {
	wantLit(t, "[1 {a:$b, a:null}]", false, 2, "[@1:1 i1@1:2 {@1:4 a@1:5:$b@1:7 a@1:11:null@1:13 } ] ")
	wantLit(t, "[1 {a:$b, a:null}]", true, 2, "syntax 1:7")
	for _, constant := range []bool{false, true} {
		wantLit(t, "[]", constant, 1, "[@1:1 ] ")
		wantLit(t, "{}", constant, 1, "{@1:1 } ")
		wantLit(t, "[,,]", constant, 1, "[@1:1 ] ")
		wantLit(t, "{,\n}", constant, 1, "{@1:1 } ")
		wantLit(t, "[[] {} []]", constant, 2, "[@1:1 [@1:2 ] {@1:5 } [@1:8 ] ] ")
		wantLit(t, "[1\"s\"2.5 true null x]", constant, 1, "[@1:1 i1@1:2 s\"s\"@1:3 f2.5@1:6 btrue@1:10 null@1:15 ex@1:20 ] ")
		wantLit(t, "{a:1 a:2 a:1}", constant, 1, "{@1:1 a@1:2:i1@1:4 a@1:6:i2@1:8 a@1:10:i1@1:12 } ")
		wantLit(t, "{true:false on:null null:on}", constant, 1, "{@1:1 true@1:2:bfalse@1:7 on@1:13:null@1:16 null@1:21:eon@1:26 } ")
		wantLit(t, "{a:{b:{c:[]}}}", constant, 4, "{@1:1 a@1:2:{@1:4 b@1:5:{@1:7 c@1:8:[@1:10 ] } } } ")
		wantLit(t, "{ a :\n1 }", constant, 1, "{@1:1 a@1:3:i1@2:1 } ")
	}
	wantLit(t, "[$a $b]", false, 1, "[@1:1 $a@1:2 $b@1:5 ] ")
	wantLit(t, "{a:$a b:[$a]}", false, 2, "{@1:1 a@1:2:$a@1:4 b@1:7:[@1:9 $a@1:10 ] } ")
}

func TestWrongLits(t *testing.T) {
	for src, want := range map[string]string{
		"[[[": "depth 1:3", "[[}": "syntax 1:3", "{1:2}": "syntax 1:2", "{a 1}": "syntax 1:4", "1 2": "syntax 1:3", "01": "syntax 1:1", "[1 01": "syntax 1:4",
		"": "syntax 1:1", " \n ": "syntax 2:2", "$": "syntax 1:2", "$1": "syntax 1:2", "$$a": "syntax 1:2", "$\"a\"": "syntax 1:2", "$a $b": "syntax 1:4", "[$]": "syntax 1:3",
		"[": "syntax 1:2", "[1": "syntax 1:3", "[1}": "syntax 1:3", "[1)": "syntax 1:3", "]": "syntax 1:1", "[]]": "syntax 1:3", "[1]2": "syntax 1:4", "[:]": "syntax 1:2", "[[]": "syntax 1:4",
		"{": "syntax 1:2", "{a": "syntax 1:3", "{a:": "syntax 1:4", "{a:1": "syntax 1:5", "{a:}": "syntax 1:4", "{a}": "syntax 1:3", "{:1}": "syntax 1:2", "{a:1]": "syntax 1:5", "{a:1 2}": "syntax 1:6", "{\"a\":1}": "syntax 1:2", "{$a:1}": "syntax 1:2", "{a::1}": "syntax 1:4", "{a:b:1}": "syntax 1:5", "{a=1}": "syntax 1:3", "}": "syntax 1:1", "{}}": "syntax 1:3", "{{}}": "syntax 1:2", "{[]}": "syntax 1:2",
		"!": "syntax 1:1", "&": "syntax 1:1", "(": "syntax 1:1", "(1)": "syntax 1:1", ")": "syntax 1:1", ":": "syntax 1:1", "=": "syntax 1:1", "@": "syntax 1:1", "|": "syntax 1:1", "...": "syntax 1:1", "@a": "syntax 1:1",
		"?": "syntax 1:1", "1 ?": "syntax 1:3", "[1 ?": "syntax 1:4", "{?": "syntax 1:2", "{a?": "syntax 1:3", "{a:?": "syntax 1:4", "$?": "syntax 1:2", "\"": "syntax 1:1", "\"\\q\"": "syntax 1:1", "1a": "syntax 1:1", "1 2 ?": "syntax 1:3", "[} ?": "syntax 1:2", "[[[ ?": "depth 1:3",
		"{a:{b:{": "depth 1:7", "[{a:[": "depth 1:5", "[[1] [2] [[3]]]": "depth 1:11",
	} {
		wantLit(t, src, false, 2, want)
	}
}

// Variables where constants are asked for, at every depth.
func TestVariablesInConstants(t *testing.T) {
	for _, around := range [][]string{{"[", "]"}, {"{a:", "}"}, {"[1 {} [] ", "]"}, {"{b:{} a:", " c:[]}"}} {
		for n := range 200 {
			ahead := strings.Repeat(around[0], n)
			src := []byte(ahead + "$v" + strings.Repeat(around[1], n))
			lit, fault := parts.ReadLit(src, true, 200)
			same(t, string(src), tellLit(lit)+tellFault(fault), "syntax 1:"+strconv.Itoa(len(ahead)+1))
			if lit, fault = parts.ReadLit(src, false, 200); fault.Kind != api.OK || !strings.Contains(tellLit(lit), "$v@1:"+strconv.Itoa(len(ahead)+1)+" ") {
				t.Error(string(src), fault)
			}
		}
	}
}

// What stands behind a literal stays: it is the caller's.
func TestBehindLits(t *testing.T) {
	wantCalls(t, "1 2", 0, do("Lit"), []string{"i1@1:1 ,true"}, "i2@1:3 nesting 0 fault ok,false")
	wantCalls(t, "[1] ]", 1, do("Lit"), []string{"[@1:1 i1@1:2 ] ,true"}, "p]@1:5 nesting 0 fault ok,false")
	wantCalls(t, "{} ?", 1, do("Lit"), []string{"{@1:1 } ,true"}, "B@1:4 nesting 0 fault ok,false")
	wantCalls(t, "$a: 1", 1, do("Lit"), []string{"$a@1:1 ,true"}, "p:@1:3 nesting 0 fault ok,false")
	wantCalls(t, "$a", 1, do("Lit", "true"), []string{",false"}, "p$@1:1 nesting 0 fault syntax 1:1,true")
	wantCalls(t, "[1 [2 )", 2, do("Lit"), []string{",false"}, "p)@1:7 nesting 2 fault syntax 1:7,true")
	// A bracket that is open already counts.
	inner := []call{{"Open", []string{"("}}, {"Lit", nil}}
	wantCalls(t, "([1])", 2, inner, []string{"true", "[@1:2 i1@1:3 ] ,true"}, "p)@1:5 nesting 1 fault ok,false")
	wantCalls(t, "([1 {}])", 2, inner, []string{"true", ",false"}, "p{@1:5 nesting 2 fault depth 1:5,true")
}

// maker writes literals and tells them, with places that it counts itself.
type maker struct {
	r    *rand.Rand
	src  strings.Builder
	line int
	col  int
}

// put writes a text of one line, and something that is passed over behind it; it answers the text's place.
func (m *maker) put(text string) string {
	spot := "@" + strconv.Itoa(m.line) + ":" + strconv.Itoa(m.col)
	m.src.WriteString(text)
	m.col += len([]rune(text))
	gap := []string{" ", ",", ",,", "\t", "\n", "\r\n", "# é\n"}[m.r.Intn(7)]
	m.src.WriteString(gap)
	m.col += len(gap)
	if strings.HasSuffix(gap, "\n") {
		m.line, m.col = m.line+1, 1
	}
	return spot
}

func (m *maker) lit(room int, constant bool) string {
	n := m.r.Intn(10)
	if room == 0 {
		n = m.r.Intn(8)
	}
	switch n {
	case 0:
		if !constant {
			spot := m.put("$")
			m.put("true")
			return "$true" + spot + " "
		}
		fallthrough
	case 1:
		return "i-70" + m.put("-70") + " "
	case 2:
		return "f7.0e-0" + m.put("7.0e-0") + " "
	case 3:
		return "s\"é\\\"\"" + m.put("\"é\\\"\"") + " "
	case 4:
		return "k\"é\"" + m.put("\"\"\"é\"\"\"") + " "
	case 5:
		return "bfalse" + m.put("false") + " "
	case 6:
		return "null" + m.put("null") + " "
	case 7:
		return "eon" + m.put("on") + " "
	case 8:
		return m.list(room-1, constant)
	}
	return m.object(room-1, constant)
}

func (m *maker) list(room int, constant bool) string {
	told := "[" + m.put("[") + " "
	for n := m.r.Intn(4); n > 0; n-- {
		told += m.lit(room, constant)
	}
	m.put("]")
	return told + "] "
}

func (m *maker) object(room int, constant bool) string {
	told := "{" + m.put("{") + " "
	for n := m.r.Intn(4); n > 0; n-- {
		name := []string{"a", "b", "null"}[m.r.Intn(3)]
		told += name + m.put(name) + ":"
		m.put(":")
		told += m.lit(room, constant)
	}
	m.put("}")
	return told + "} "
}

// Literals that are made by chance come back as they were made.
func TestMadeLits(t *testing.T) {
	for seed := range int64(20000) {
		m := &maker{r: rand.New(rand.NewSource(seed)), line: 1, col: 1}
		constant := seed%2 == 0
		told := m.lit(6, constant)
		lit, fault := parts.ReadLit([]byte(m.src.String()), constant, 6)
		if tellFault(fault) != "ok" || tellLit(lit) != told {
			t.Fatalf("%q: got %s, %s; want %s", m.src.String(), tellLit(lit), tellFault(fault), told)
		}
	}
}
