package query_test

import (
	"slices"
	"strconv"
	"strings"
	"testing"

	"pergola/api"
	"pergola/lex"
	"pergola/query"
)

// rule: in a state, at a token of a class, the token is kept (-), taken (+), taken as an opening bracket (<) or as a closing one (>), or refused (x); the states to come are those of next, the first of them at first; and something is told, where T is the token's text, V its value in quotes, P its place and Q the place of the token ahead of it.
type rule struct {
	state, class string
	move         byte
	next, tell   string
}

// documentRules are the chapter's grammar written out a second time, as a machine with a stack of states. A rule with the class n is for all names, one with the class * for all tokens that no other rule of its state names; a token for which a state has no rule is a fault.
var documentRules = []rule{
	{"document", "*", '-', "definition rest", ""},
	{"rest", "end", '-', "", ""},
	{"rest", "*", '-', "definition rest", ""},
	{"definition", "{", '-', "set", "short@P "},
	{"definition", "=query", '+', "opname variables dirs set", "T@P "},
	{"definition", "=mutation", '+', "opname variables dirs set", "T@P "},
	{"definition", "=subscription", '+', "opname variables dirs set", "T@P "},
	{"definition", "=fragment", '+', "fragname on onname dirs set", "T@P "},
	{"opname", "n", '+', "", "T "},
	{"opname", "*", '-', "", ""},
	{"fragname", "=on", 'x', "", ""},
	{"fragname", "n", '+', "", "T "},
	{"on", "=on", '+', "", "on "},
	{"onname", "n", '+', "", "T "},

	{"variables", "(", '<', "variable morevars", "("},
	{"variables", "*", '-', "", ""},
	{"variable", "$", '+', "varname colon type default cdirs", ""},
	{"varname", "n", '+', "", "$T@Q:"},
	{"default", "=", '+', "cvalue", "="},
	{"default", "*", '-', "", ""},
	{"morevars", ")", '>', "", ") "},
	{"morevars", "*", '-', "variable morevars", ""},

	{"set", "{", '<', "selection moresels", "{ "},
	{"moresels", "}", '>', "", "} "},
	{"moresels", "*", '-', "selection moresels", ""},
	{"selection", "n", '+', "alias args dirs maybeset", "T@P "},
	{"alias", ":", '+', "fieldname", ":"},
	{"alias", "*", '-', "", ""},
	{"fieldname", "n", '+', "", "T "},
	{"maybeset", "{", '-', "set", ""},
	{"maybeset", "*", '-', "", ""},
	{"selection", "...", '+', "dotted", "...@P "},
	{"dotted", "=on", '+', "onname dirs set", "on "},
	{"dotted", "n", '+', "dirs", "=T "},
	{"dotted", "*", '-', "dirs set", "all "},

	{"type", "n", '+', "mark", "T "},
	{"type", "[", '<', "lefttype", ""},
	{"colon", ":", '+', "", ""},
	{"mark", "!", '+', "", "!"},
	{"mark", "*", '-', "", ""},
	{"endtype", "]", '>', "", "]"},
	{"lefttype", "*", '-', "type endtype mark", ""},
}

// valueRules are those of layer 8's values, arguments and directives; each stands a second time, without variables, for the states whose names begin with a c.
var valueRules = []rule{
	{"value", "int", '+', "", "iT@P "},
	{"value", "float", '+', "", "fT@P "},
	{"value", "string", '+', "", "sV@P "},
	{"value", "block", '+', "", "kV@P "},
	{"value", "=true", '+', "", "bT@P "},
	{"value", "=false", '+', "", "bT@P "},
	{"value", "=null", '+', "", "null@P "},
	{"value", "n", '+', "", "eT@P "},
	{"value", "$", '+', "used", ""},
	{"used", "n", '+', "", "$T@Q "},
	{"value", "[", '<', "items", "[@P "},
	{"items", "]", '>', "", "] "},
	{"items", "*", '-', "value items", ""},
	{"value", "{", '<', "members", "{@P "},
	{"members", "}", '>', "", "} "},
	{"members", "*", '-', "pair members", ""},
	{"pair", "n", '+', "pairvalue", "T@P:"},
	{"pairvalue", ":", '+', "value", ""},

	{"args", "(", '<', "pair moreargs", "("},
	{"args", "*", '-', "", ""},
	{"moreargs", ")", '>', "", ") "},
	{"moreargs", "*", '-', "pair moreargs", ""},

	{"dirs", "@", '+', "dirname args dirs", ""},
	{"dirs", "*", '-', "", ""},
	{"dirname", "n", '+', "", "@T@Q "},
}

// key is a state and a class.
type key struct{ state, class string }

var rules = allRules()

func allRules() map[key]rule {
	all := map[key]rule{}
	add := func(r rule) {
		if _, twice := all[key{r.state, r.class}]; twice {
			panic("two rules for " + r.state + " " + r.class)
		}
		all[key{r.state, r.class}] = r
	}
	for _, r := range documentRules {
		add(r)
	}
	for _, r := range valueRules {
		add(r)
		if r.class == "$" {
			continue
		}
		r.state = "c" + r.state
		next := strings.Fields(r.next)
		for i := range next {
			next[i] = "c" + next[i]
		}
		r.next = strings.Join(next, " ")
		add(r)
	}
	return all
}

// shortest is for each state a source that brings it to its end; of the others it is empty.
var shortest = map[string]string{
	"document": "{a}", "definition": "{a}", "fragname": "f", "on": "on", "onname": "t",
	"variable": "$v:t", "varname": "v", "colon": ":", "type": "t", "lefttype": "t]", "endtype": "]", "morevars": ")",
	"set": "{a}", "selection": "a", "moresels": "}", "fieldname": "a", "dotted": "f",
	"value": "1", "used": "v", "items": "]", "members": "}", "pair": "a:1", "pairvalue": ":1", "moreargs": ")", "dirname": "d",
	"cvalue": "1", "citems": "]", "cmembers": "}", "cpair": "a:1", "cpairvalue": ":1", "cmoreargs": ")", "cdirname": "d",
}

// classes are those of a token, the narrower first; a word alone is one with a = ahead of it.
func classes(t api.Token) []string {
	switch t.Kind {
	case api.TokPunct:
		return []string{t.Text, "*"}
	case api.TokName:
		return []string{"=" + t.Text, "n", "*"}
	}
	return []string{[]string{"end", "bad", "", "", "int", "float", "string", "block"}[t.Kind], "*"}
}

func ruleFor(state string, t api.Token) rule {
	for _, class := range classes(t) {
		if r, has := rules[key{state, class}]; has {
			return r
		}
	}
	return rule{move: 'x'}
}

// model is what the machine has come to at its end, or at its fault.
type model struct {
	told  string   // as tell tells it
	stack []string // of a fault: the states that were still to come, the first of them last
	last  bool     // of a fault: whether it is at the source's end
}

func runModel(src string, depth int) model {
	tokens := lex.Tokens([]byte(src))
	most := max(0, min(depth, 200))
	stack := []string{"document"}
	told := ""
	open, i := 0, 0
	for len(stack) > 0 {
		top, token := stack[len(stack)-1], tokens[i]
		r := ruleFor(top, token)
		if r.move == 'x' {
			return model{"syntax " + at(token.Pos), stack, token.Kind == api.TokEnd}
		}
		if r.move == '<' && open == most {
			return model{"depth " + at(token.Pos), stack, false}
		}
		for _, c := range r.tell {
			switch c {
			case 'T':
				told += token.Text
			case 'V':
				told += strconv.Quote(token.Value)
			case 'P':
				told += at(token.Pos)
			case 'Q':
				told += at(tokens[i-1].Pos)
			default:
				told += string(c)
			}
		}
		open += map[byte]int{'<': 1, '>': -1}[r.move]
		if r.move != '-' {
			i++
		}
		next := strings.Fields(r.next)
		slices.Reverse(next)
		stack = append(stack[:len(stack)-1], next...)
	}
	return model{told: told}
}

// checkSource holds what Parse answers of a source against the model. It answers whether a longer source might be read further.
func checkSource(t *testing.T, src string, depth int) bool {
	t.Helper()
	m := runModel(src, depth)
	if got := tell([]byte(src), depth); got != m.told {
		t.Errorf("%q, depth %d: got %s, want %s", src, depth, got, m.told)
		return false
	}
	if !m.last {
		return !strings.HasPrefix(m.told, "syntax ") && !strings.HasPrefix(m.told, "depth ")
	}
	// R7: what stands ahead of a fault at the end is the beginning of a right document.
	whole := src
	for _, state := range slices.Backward(m.stack) {
		whole += "\n" + shortest[state]
	}
	if _, fault := query.Parse([]byte(whole), api.MostDepth); fault.Kind != api.OK {
		t.Errorf("%q, depth %d: %s, but %q has %s", src, depth, m.told, whole, tellFault(fault))
	}
	return true
}
