package parts_test

import (
	"slices"
	"strconv"
	"strings"
	"testing"

	"pergola/api"
	"pergola/lex"
	"pergola/parts"
)

// model is the chapter written out a second time: a machine with a stack of states and a table of rules. What it reads it tells at once, token by token, as the tell functions tell the answers.
type model struct {
	tokens []api.Token
	i      int
	open   int
	most   int
	fault  string
}

func newModel(src string, depth int) *model {
	most := depth
	if depth < 0 {
		most = 0
	}
	if depth > 200 {
		most = 200
	}
	return &model{tokens: lex.Tokens([]byte(src)), most: most}
}

// rule: in a state, at a token of a class, the token is kept (-), taken (+), taken as an opening bracket (<) or as a closing one (>); the states to come are those of next, the first of them at first; and something is told, where T is the token's text, V its value in quotes, P its place and Q the place of the token ahead of it.
type rule struct {
	state, class string
	move         byte
	next, tell   string
}

// A rule with the class * is for all tokens that no rule above it names. A token for which a state has no rule is a fault.
var rules = []rule{
	{"type", "n", '+', "mark", "T "},
	{"type", "[", '<', "type endtype mark", ""},
	{"endtype", "]", '>', "", "]"},
	{"mark", "!", '+', "", "!"},
	{"mark", "*", '-', "", ""},

	{"value", "i", '+', "", "iT@P "},
	{"value", "f", '+', "", "fT@P "},
	{"value", "s", '+', "", "sV@P "},
	{"value", "k", '+', "", "kV@P "},
	{"value", "=true", '+', "", "bT@P "},
	{"value", "=false", '+', "", "bT@P "},
	{"value", "=null", '+', "", "null@P "},
	{"value", "n", '+', "", "eT@P "},
	{"value", "$", '+', "variable", ""},
	{"variable", "n", '+', "", "$T@Q "},
	{"value", "[", '<', "items", "[@P "},
	{"items", "]", '>', "", "] "},
	{"items", "*", '-', "value items", ""},
	{"value", "{", '<', "fields", "{@P "},
	{"fields", "}", '>', "", "} "},
	{"fields", "*", '-', "pair fields", ""},
	{"pair", "n", '+', "colon value", "T@P:"},
	{"colon", ":", '+', "", ""},

	{"args", "(", '<', "pair further", "("},
	{"args", "*", '-', "", ""},
	{"further", ")", '>', "", ") "},
	{"further", "*", '-', "pair further", ""},

	{"dirs", "@", '+', "dirname args dirs", ""},
	{"dirs", "*", '-', "", ""},
	{"dirname", "n", '+', "", "@T@Q "},
}

// classes are those of a token, the narrower first; a word alone is one with a = ahead of it.
func classes(t api.Token) []string {
	switch t.Kind {
	case api.TokPunct:
		return []string{t.Text, "*"}
	case api.TokName:
		return []string{"=" + t.Text, "n", "*"}
	}
	return []string{string("EB??ifsk"[t.Kind]), "*"}
}

func ruleFor(state string, t api.Token, constant bool) (rule, bool) {
	if state == "value" && t.Text == "$" && constant {
		return rule{}, false
	}
	for _, class := range classes(t) {
		for _, r := range rules {
			if r.state == state && r.class == class {
				return r, true
			}
		}
	}
	return rule{}, false
}

func (m *model) token() api.Token { return m.tokens[m.i] }

func (m *model) dead() bool { return m.fault != "" }

func (m *model) refuse(kind string) {
	if !m.dead() {
		m.fault = kind + " " + at(m.token().Pos)
	}
}

// bracket counts a bracket, if there is room for it.
func (m *model) bracket() bool {
	if m.open == m.most {
		m.refuse("depth")
		return false
	}
	m.open++
	return true
}

// run goes from a state to where the stack is empty.
func (m *model) run(state string, constant bool) string {
	if m.dead() {
		return ",false"
	}
	told := ""
	for stack := []string{state}; len(stack) > 0; {
		top := stack[len(stack)-1]
		token := m.token()
		r, has := ruleFor(top, token, constant)
		if !has {
			m.refuse("syntax")
		}
		if !has || r.move == '<' && !m.bracket() {
			return ",false"
		}
		ahead := api.Pos{}
		if m.i > 0 {
			ahead = m.tokens[m.i-1].Pos
		}
		for _, c := range r.tell {
			told += map[rune]string{'T': token.Text, 'V': strconv.Quote(token.Value), 'P': at(token.Pos), 'Q': at(ahead)}[c]
			if !strings.ContainsRune("TVPQ", c) {
				told += string(c)
			}
		}
		if r.move != '-' {
			m.i++
		}
		if r.move == '>' && m.open > 0 {
			m.open--
		}
		next := strings.Fields(r.next)
		slices.Reverse(next)
		stack = append(stack[:len(stack)-1], next...)
	}
	return told + ",true"
}

// isWord, isPunct and the like are P8.1 and P8.2 as they stand.
func (m *model) isPunct(p string) bool {
	return !m.dead() && m.token().Kind == api.TokPunct && m.token().Text == p
}

func (m *model) isWord(words []string) bool {
	for _, w := range words {
		if !m.dead() && m.token().Kind == api.TokName && m.token().Text == w {
			return true
		}
	}
	return false
}

func (m *model) step(so, must bool) string {
	if so {
		m.i++
	} else if must {
		m.refuse("syntax")
	}
	return strconv.FormatBool(so)
}

func (m *model) named(so bool) string {
	told := "no name"
	if so {
		told = m.token().Text + "@" + at(m.token().Pos)
	}
	return told + "," + m.step(so, true)
}

func (m *model) opened(p string) string {
	if !m.isPunct(p) {
		m.refuse("syntax")
	} else if m.bracket() {
		m.i++
		return "true"
	}
	return "false"
}

func (m *model) closed(p string) string {
	told := m.step(m.isPunct(p), true)
	if told == "true" && m.open > 0 {
		m.open--
	}
	return told
}

func (m *model) note() string {
	if m.dead() {
		return "no note,false"
	}
	letter := map[api.TokKind]string{api.TokString: "s", api.TokBlock: "k"}[m.token().Kind]
	if letter == "" {
		return "no note,true"
	}
	m.i++
	return letter + strconv.Quote(m.tokens[m.i-1].Value) + ",true"
}

func (m *model) state() string {
	fault := "ok,false"
	if m.dead() {
		fault = m.fault + ",true"
	}
	return tellToken(m.token()) + " nesting " + strconv.Itoa(m.open) + " fault " + fault
}

// call is a call of a cursor's method, with its arguments; constant stands as the word true.
type call struct {
	method string
	args   []string
}

func (o call) String() string {
	return o.method + "(" + strings.Join(o.args, ", ") + ")"
}

func (o call) constant() bool { return slices.Contains(o.args, "true") }

// of makes the call of a cursor, and tells its answer.
func (o call) of(c *parts.Cursor) string {
	first := strings.Join(o.args, "")
	switch o.method {
	case "IsPunct":
		return strconv.FormatBool(c.IsPunct(first))
	case "IsWord":
		return strconv.FormatBool(c.IsWord(o.args...))
	case "Punct":
		return strconv.FormatBool(c.Punct(first))
	case "Word":
		return strconv.FormatBool(c.Word(first))
	case "Want":
		return strconv.FormatBool(c.Want(first))
	case "WantWord":
		name, ok := c.WantWord(o.args...)
		return both(tellNamed(name), ok)
	case "Name":
		name, ok := c.Name(o.args...)
		return both(tellNamed(name), ok)
	case "Open":
		return strconv.FormatBool(c.Open(first))
	case "Close":
		return strconv.FormatBool(c.Close(first))
	case "End":
		return strconv.FormatBool(c.End())
	case "Refuse":
		c.Refuse()
		return ""
	case "Note":
		note, ok := c.Note()
		return both(tellNote(note), ok)
	case "Type":
		ref, ok := c.Type()
		return both(tellType(ref), ok)
	case "Lit":
		lit, ok := c.Lit(o.constant())
		return both(tellLit(lit), ok)
	case "Args":
		list, ok := c.Args(o.constant())
		return both(tellArgs(list), ok)
	case "Dirs":
		list, ok := c.Dirs(o.constant())
		return both(tellDirs(list), ok)
	}
	panic("no method " + o.method)
}

// ofModel makes the call of the model.
func (o call) ofModel(m *model) string {
	first := strings.Join(o.args, "")
	switch o.method {
	case "IsPunct":
		return strconv.FormatBool(m.isPunct(first))
	case "IsWord":
		return strconv.FormatBool(m.isWord(o.args))
	case "Punct":
		return m.step(m.isPunct(first), false)
	case "Word":
		return m.step(m.isWord(o.args), false)
	case "Want":
		return m.step(m.isPunct(first), true)
	case "WantWord":
		return m.named(m.isWord(o.args))
	case "Name":
		return m.named(!m.dead() && m.token().Kind == api.TokName && !m.isWord(o.args))
	case "Open":
		return m.opened(first)
	case "Close":
		return m.closed(first)
	case "End":
		is := !m.dead() && m.token().Kind == api.TokEnd
		if !is {
			m.refuse("syntax")
		}
		return strconv.FormatBool(is)
	case "Refuse":
		m.refuse("syntax")
		return ""
	case "Note":
		return m.note()
	case "Type":
		return m.run("type", false)
	case "Lit":
		return m.run("value", o.constant())
	case "Args":
		return m.run("args", o.constant())
	case "Dirs":
		return m.run("dirs", o.constant())
	}
	panic("no method " + o.method)
}

// readers are the calls that read more than a token.
func readers() []call {
	return []call{{"Note", nil}, {"Type", nil}, {"Lit", nil}, {"Lit", []string{"true"}}, {"Args", nil}, {"Args", []string{"true"}}, {"Dirs", nil}, {"Dirs", []string{"true"}}}
}

// calls are calls of all methods that may move a cursor or ask what it stands at, with arguments of many kinds.
func calls() []call {
	out := readers()
	for _, p := range []string{"", "(", ")", "[", "]", "{", "}", ":", "!", "$", "@", "...", "a", "on", "1", "\"s\""} {
		for _, method := range []string{"IsPunct", "Punct", "Want", "Open", "Close", "IsWord", "Word", "WantWord", "Name"} {
			out = append(out, call{method, []string{p}})
		}
	}
	for _, method := range []string{"IsWord", "WantWord", "Name"} {
		out = append(out, call{method, nil}, call{method, []string{"b", "on", "a"}}, call{method, []string{"", "{", "b"}}, call{method, []string{"a", "a"}})
	}
	return append(out, call{"End", nil}, call{"Refuse", nil})
}

// checkCalls makes calls of a cursor and of the model, one behind the other, and holds all that is told against each other.
func checkCalls(t *testing.T, src string, depth int, list []call) {
	t.Helper()
	c, m := parts.New([]byte(src), depth), newModel(src, depth)
	for i, o := range list {
		got, want := o.of(c), o.ofModel(m)
		if got != want || state(c) != m.state() {
			t.Errorf("%q, depth %d, after %v, %v: got %s, then %s; want %s, then %s", src, depth, list[:i], o, got, state(c), want, m.state())
			return
		}
	}
}

// checkSource holds every reader, ReadLit and ReadType of a source against the model. It answers whether a longer source might be read further by one of them.
func checkSource(t *testing.T, src string, depth int) bool {
	t.Helper()
	further := false
	for _, o := range readers() {
		checkCalls(t, src, depth, []call{o})
		m := newModel(src, depth)
		further = o.ofModel(m) != "" && m.token().Kind == api.TokEnd || further
	}
	for _, constant := range []bool{false, true} {
		m := newModel(src, depth)
		told := m.run("value", constant)
		lit, fault := parts.ReadLit([]byte(src), constant, depth)
		checkWhole(t, src, depth, m, told, tellLit(lit), fault)
	}
	m := newModel(src, depth)
	told := m.run("type", false)
	ref, fault := parts.ReadType([]byte(src), depth)
	checkWhole(t, src, depth, m, told, tellType(ref), fault)
	return further
}

func checkWhole(t *testing.T, src string, depth int, m *model, told, got string, fault api.Fault) {
	t.Helper()
	call{"End", nil}.ofModel(m)
	want := strings.TrimSuffix(told, ",true") + "ok"
	if m.dead() {
		want = m.fault
	}
	if got+tellFault(fault) != want {
		t.Errorf("%q as a whole, depth %d: got %s, want %s", src, depth, got+tellFault(fault), want)
	}
}
