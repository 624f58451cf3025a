package sdl_test

import (
	"slices"
	"strconv"
	"strings"
	"testing"

	"pergola/api"
	"pergola/lex"
	"pergola/sdl"
)

// rule: in a state, at a token of a class, the token is kept (-), taken (+), taken as an opening bracket (<) or as a closing one (>), or refused (x); the states to come are those of next, the first of them at first; and something is told, where T is the token's text, V its value in quotes, P its place and Q the place of the token ahead of it.
type rule struct {
	state, class string
	move         byte
	next, tell   string
}

// theRules are the chapter's grammar written out a second time, as a machine with a stack of states. A rule with the class n is for all names, one with the class * for all tokens that no other rule of its state names; a token for which a state has no rule is a fault.
var theRules = []rule{
	{"document", "*", '-', "definition rest", ""},
	{"rest", "end", '-', "", ""},
	{"rest", "*", '-', "definition rest", ""},
	{"definition", "string", '+', "defined", "sV "},
	{"definition", "block", '+', "defined", "kV "},
	{"definition", "=extend", '+', "extended", "T "},
	{"definition", "*", '-', "defined", ""},

	{"defined", "=schema", '+', "dirs roots", "T@P "},
	{"defined", "=scalar", '+', "name dirs", "T "},
	{"defined", "=type", '+', "name ifaces dirs maybefields", "T "},
	{"defined", "=interface", '+', "name ifaces dirs maybefields", "T "},
	{"defined", "=union", '+', "name dirs maybemembers", "T "},
	{"defined", "=enum", '+', "name dirs maybecases", "T "},
	{"defined", "=input", '+', "name dirs maybeblanks", "T "},
	{"defined", "=directive", '+', "at name inputs repeatable on", "T "},
	{"name", "n", '+', "", "T@P "},

	{"extended", "=schema", '+', "xschema", "T@P "},
	{"extended", "=scalar", '+', "name xscalar", "T "},
	{"extended", "=type", '+', "name xobject", "T "},
	{"extended", "=interface", '+', "name xobject", "T "},
	{"extended", "=union", '+', "name xunion", "T "},
	{"extended", "=enum", '+', "name xenum", "T "},
	{"extended", "=input", '+', "name xinput", "T "},
	{"xschema", "@", '-', "dirs mayberoots", ""},
	{"xschema", "{", '-', "roots", ""},
	{"xscalar", "@", '-', "dirs", ""},
	{"xobject", "=implements", '-', "ifaces dirs maybefields", ""},
	{"xobject", "@", '-', "dirs maybefields", ""},
	{"xobject", "{", '-', "maybefields", ""},
	{"xunion", "@", '-', "dirs maybemembers", ""},
	{"xunion", "=", '-', "maybemembers", ""},
	{"xenum", "@", '-', "dirs maybecases", ""},
	{"xenum", "{", '-', "maybecases", ""},
	{"xinput", "@", '-', "dirs maybeblanks", ""},
	{"xinput", "{", '-', "maybeblanks", ""},

	{"mayberoots", "{", '-', "roots", ""},
	{"mayberoots", "*", '-', "", ""},
	{"roots", "{", '<', "root moreroots", "{ "},
	{"root", "=query", '+', "colon rooted", "T@P "},
	{"root", "=mutation", '+', "colon rooted", "T@P "},
	{"root", "=subscription", '+', "colon rooted", "T@P "},
	{"rooted", "n", '+', "", "T "},
	{"moreroots", "}", '>', "", "} "},
	{"moreroots", "*", '-', "root moreroots", ""},

	{"ifaces", "=implements", '+', "firstiface", ""},
	{"ifaces", "*", '-', "", ""},
	{"firstiface", "&", '+', "iface", ""},
	{"firstiface", "*", '-', "iface", ""},
	{"iface", "n", '+', "moreifaces", "&T@P "},
	{"moreifaces", "&", '+', "iface", ""},
	{"moreifaces", "*", '-', "", ""},
	{"maybefields", "{", '<', "field morefields", "{ "},
	{"maybefields", "*", '-', "", ""},
	{"field", "*", '-', "note name inputs colon type dirs", ""},
	{"morefields", "}", '>', "", "} "},
	{"morefields", "*", '-', "field morefields", ""},
	{"note", "string", '+', "", "sV "},
	{"note", "block", '+', "", "kV "},
	{"note", "*", '-', "", ""},
	{"inputs", "(", '<', "given moregiven", "( "},
	{"inputs", "*", '-', "", ""},
	{"moregiven", ")", '>', "", ") "},
	{"moregiven", "*", '-', "given moregiven", ""},
	{"given", "*", '-', "note name colon type default dirs", ""},
	{"default", "=", '+', "value", "="},
	{"default", "*", '-', "", ""},

	{"maybemembers", "=", '+', "firstmember", ""},
	{"maybemembers", "*", '-', "", ""},
	{"firstmember", "|", '+', "member", ""},
	{"firstmember", "*", '-', "member", ""},
	{"member", "n", '+', "moremembers", "|T@P "},
	{"moremembers", "|", '+', "member", ""},
	{"moremembers", "*", '-', "", ""},
	{"maybecases", "{", '<', "case morecases", "{ "},
	{"maybecases", "*", '-', "", ""},
	{"case", "*", '-', "note casename dirs", ""},
	{"casename", "=true", 'x', "", ""},
	{"casename", "=false", 'x', "", ""},
	{"casename", "=null", 'x', "", ""},
	{"casename", "n", '+', "", "T@P "},
	{"morecases", "}", '>', "", "} "},
	{"morecases", "*", '-', "case morecases", ""},
	{"maybeblanks", "{", '<', "given moreblanks", "{ "},
	{"maybeblanks", "*", '-', "", ""},
	{"moreblanks", "}", '>', "", "} "},
	{"moreblanks", "*", '-', "given moreblanks", ""},

	{"at", "@", '+', "", ""},
	{"repeatable", "=repeatable", '+', "", "T "},
	{"repeatable", "*", '-', "", ""},
	{"on", "=on", '+', "firstplace", ""},
	{"firstplace", "|", '+', "place", ""},
	{"firstplace", "*", '-', "place", ""},
	{"moreplaces", "|", '+', "place", ""},
	{"moreplaces", "*", '-', "", ""},

	{"colon", ":", '+', "", ":"},
	{"type", "n", '+', "mark", "T "},
	{"type", "[", '<', "type endtype mark", ""},
	{"mark", "!", '+', "", "!"},
	{"mark", "*", '-', "", ""},
	{"endtype", "]", '>', "", "]"},

	{"value", "int", '+', "", "iT@P "},
	{"value", "float", '+', "", "fT@P "},
	{"value", "string", '+', "", "sV@P "},
	{"value", "block", '+', "", "kV@P "},
	{"value", "=true", '+', "", "bT@P "},
	{"value", "=false", '+', "", "bT@P "},
	{"value", "=null", '+', "", "null@P "},
	{"value", "n", '+', "", "eT@P "},
	{"value", "[", '<', "items", "[@P "},
	{"items", "]", '>', "", "] "},
	{"items", "*", '-', "value items", ""},
	{"value", "{", '<', "members", "{@P "},
	{"members", "}", '>', "", "} "},
	{"members", "*", '-', "pair members", ""},
	{"pair", "n", '+', "pairvalue", "T@P:"},
	{"pairvalue", ":", '+', "value", ""},
	{"args", "(", '<', "pair moreargs", "("},
	{"args", "*", '-', "", ""},
	{"moreargs", ")", '>', "", ") "},
	{"moreargs", "*", '-', "pair moreargs", ""},
	{"dirs", "@", '+', "dirname args dirs", ""},
	{"dirs", "*", '-', "", ""},
	{"dirname", "n", '+', "", "@T@Q "},
}

// places are the names of the places at which a directive may stand.
const places = "QUERY MUTATION SUBSCRIPTION FIELD FRAGMENT_DEFINITION FRAGMENT_SPREAD INLINE_FRAGMENT VARIABLE_DEFINITION SCHEMA SCALAR OBJECT FIELD_DEFINITION ARGUMENT_DEFINITION INTERFACE UNION ENUM ENUM_VALUE INPUT_OBJECT INPUT_FIELD_DEFINITION"

// key is a state and a class.
type key struct{ state, class string }

var rules = allRules()

func allRules() map[key]rule {
	all := map[key]rule{}
	add := func(r rule) {
		if _, twice := all[key{r.state, r.class}]; twice {
			panic("two rules for " + r.state + " " + r.class)
		}
		all[key{r.state, r.class}] = r
	}
	for _, r := range theRules {
		add(r)
	}
	for _, name := range strings.Fields(places) {
		add(rule{"place", "=" + name, '+', "moreplaces", "|T@P "})
	}
	return all
}

// shortest is for each state a source that brings it to its end; of the others it is empty.
var shortest = map[string]string{
	"document": "scalar s", "definition": "scalar s", "defined": "scalar s", "extended": "scalar s@d", "name": "n",
	"xschema": "@d", "xscalar": "@d", "xobject": "@d", "xunion": "@d", "xenum": "@d", "xinput": "@d",
	"roots": "{query:q}", "root": "query:q", "rooted": "q", "moreroots": "}",
	"firstiface": "i", "iface": "i", "field": "f:t", "morefields": "}", "moregiven": ")", "given": "g:t",
	"firstmember": "m", "member": "m", "case": "c", "casename": "c", "morecases": "}", "moreblanks": "}",
	"at": "@", "on": "on FIELD", "firstplace": "FIELD", "place": "FIELD",
	"colon": ":", "type": "t", "endtype": "]",
	"value": "1", "items": "]", "members": "}", "pair": "a:1", "pairvalue": ":1", "moreargs": ")", "dirname": "d",
}

// classes are those of a token, the narrower first; a word alone is one with a = ahead of it.
func classes(t api.Token) []string {
	switch t.Kind {
	case api.TokPunct:
		return []string{t.Text, "*"}
	case api.TokName:
		return []string{"=" + t.Text, "n", "*"}
	}
	return []string{[]string{"end", "bad", "", "", "int", "float", "string", "block"}[t.Kind], "*"}
}

func ruleFor(state string, t api.Token) rule {
	for _, class := range classes(t) {
		if r, has := rules[key{state, class}]; has {
			return r
		}
	}
	return rule{move: 'x'}
}

// model is what the machine has come to at its end, or at its fault.
type model struct {
	told  string   // as tell tells it
	stack []string // of a fault: the states that were still to come, the first of them last
	last  bool     // of a fault: whether it is at the source's end
}

func runModel(src string, depth int) model {
	tokens := lex.Tokens([]byte(src))
	most := max(0, min(depth, 200))
	stack := []string{"document"}
	told := ""
	open, i := 0, 0
	for len(stack) > 0 {
		top, token := stack[len(stack)-1], tokens[i]
		r := ruleFor(top, token)
		if r.move == 'x' {
			return model{"syntax " + at(token.Pos), stack, token.Kind == api.TokEnd}
		}
		if r.move == '<' && open == most {
			return model{"depth " + at(token.Pos), stack, false}
		}
		for _, c := range r.tell {
			switch c {
			case 'T':
				told += token.Text
			case 'V':
				told += strconv.Quote(token.Value)
			case 'P':
				told += at(token.Pos)
			case 'Q':
				told += at(tokens[i-1].Pos)
			default:
				told += string(c)
			}
		}
		open += map[byte]int{'<': 1, '>': -1}[r.move]
		if r.move != '-' {
			i++
		}
		next := strings.Fields(r.next)
		slices.Reverse(next)
		stack = append(stack[:len(stack)-1], next...)
	}
	return model{told: told}
}

// checkSource holds what Parse answers of a source against the model. It answers whether a longer source might be read further.
func checkSource(t *testing.T, src string, depth int) bool {
	t.Helper()
	m := runModel(src, depth)
	if got := tell([]byte(src), depth); got != m.told {
		t.Errorf("%q, depth %d: got %s, want %s", src, depth, got, m.told)
		return false
	}
	if !m.last {
		return !strings.HasPrefix(m.told, "syntax ") && !strings.HasPrefix(m.told, "depth ")
	}
	// R7: what stands ahead of a fault at the end is the beginning of a right document.
	whole := src
	for _, state := range slices.Backward(m.stack) {
		whole += "\n" + shortest[state]
	}
	if _, fault := sdl.Parse([]byte(whole), api.MostDepth); fault.Kind != api.OK {
		t.Errorf("%q, depth %d: %s, but %q has %s", src, depth, m.told, whole, tellFault(fault))
	}
	return true
}
