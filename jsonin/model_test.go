package jsonin_test

import (
	"encoding/json"
	"maps"
	"regexp"
	"slices"
	"strconv"
	"strings"
	"testing"

	"pergola/api"
)

// grammarText is the chapter's 'A JSON text' as rules: a capital letter stands for its alternatives, 'x' for its bytes, 80-BF for one byte from the first to the last.
const grammarText = `
T = B V B
B = | 20 B | 09 B | 0A B | 0D B
V = 'null' | 'true' | 'false' | N | S | '[' B L | '{' B O
L = ']' | V B M
M = ']' | ',' B V B M
O = '}' | K P
P = '}' | ',' B K P
K = S B ':' B V B
S = 22 C
C = 22 | G C | 5C E C
G = 20-21 | 23-5B | 5D-7F | C2-DF X | E0 A0-BF X | E1-EC X X | ED 80-9F X | EE-EF X X | F0 90-BF X X | F1-F3 X X X | F4 80-8F X X
X = 80-BF
E = 22 | 5C | '/' | 'b' | 'f' | 'n' | 'r' | 't' | 'u' U
U = Q H H H | D 30-37 H H | D Y H H 5C 'u' D Z H H
H = 30-39 | 41-46 | 61-66
Q = 30-39 | 41-43 | 45-46 | 61-63 | 65-66
D = 44 | 64
Y = 38-39 | 41-42 | 61-62
Z = 43-46 | 63-66
N = I | '-' I
I = 30 F | 31-39 J F
J = | 30-39 J
F = A | '.' 30-39 J A
A = | 65 R | 45 R
R = W | '+' W | '-' W
W = 30-39 J`

var rules = readRules()

func readRules() map[byte][]string {
	out := map[byte][]string{}
	for _, line := range strings.Split(strings.TrimSpace(grammarText), "\n") {
		for _, side := range strings.Split(line[len("T ="):], "|") {
			stack := ""
			for _, word := range strings.Fields(side) {
				stack += readSymbols(word)
			}
			out[line[0]] = append(out[line[0]], stack)
		}
	}
	return out
}

func readSymbols(word string) string {
	if letters, ok := strings.CutPrefix(word, "'"); ok {
		out := ""
		for _, c := range []byte(strings.TrimSuffix(letters, "'")) {
			out += string([]byte{'#', c, c})
		}
		return out
	}
	if len(word) == 1 {
		return word
	}
	low, high, ok := strings.Cut(word, "-")
	if !ok {
		high = low
	}
	return string([]byte{'#', readHex(low), readHex(high)})
}

func readHex(digits string) byte {
	n, err := strconv.ParseUint(digits, 16, 8)
	if err != nil {
		panic(err)
	}
	return byte(n)
}

// A stack is what must still come, its first symbol next: a capital letter is a rule's name, two bytes behind a # are the first and last of a range.
// A state is the set of the stacks that some bytes lead to; it is made when it is first needed, and kept.
type state struct {
	stacks []string
	next   [256]*state
}

var (
	states = map[string]*state{}
	start  = stateOf("T")
)

// stateOf is the state of the stacks, each with its first symbol worked out to the bytes that may come next, or to the end.
func stateOf(stacks ...string) *state {
	set := map[string]int{}
	for _, stack := range stacks {
		workOut(set, stack)
	}
	all := slices.Sorted(maps.Keys(set))
	name := ""
	for _, stack := range all {
		name += strconv.Quote(stack)
	}
	if states[name] == nil {
		states[name] = &state{stacks: all}
	}
	return states[name]
}

func workOut(set map[string]int, stack string) {
	if stack == "" || stack[0] == '#' {
		set[stack] = 1
		return
	}
	for _, side := range rules[stack[0]] {
		workOut(set, side+stack[1:])
	}
}

// step is the state behind c.
func (s *state) step(c byte) *state {
	if s.next[c] == nil {
		var rests []string
		for _, stack := range s.stacks {
			if stack != "" && stack[1] <= c && c <= stack[2] {
				rests = append(rests, stack[3:])
			}
		}
		s.next[c] = stateOf(rests...)
	}
	return s.next[c]
}

// isBad: no JSON text goes on so. (Every rule of the grammar has an end, so every stack can be come by.)
func (s *state) isBad() bool { return len(s.stacks) == 0 }

func (s *state) mayEnd() bool { return slices.Contains(s.stacks, "") }

// goodBeginning is the length of src's longest beginning that begins a JSON text, and whether all of src is one.
func goodBeginning(src string) (int, bool) {
	now := start
	for i := range len(src) {
		now = now.step(src[i])
		if now.isBad() {
			return i, false
		}
	}
	return len(src), now.mayEnd()
}

var (
	tokens  = regexp.MustCompile(`(?s)^(?:"(?:[^"\\]|\\.)*"|[a-z]+|[-0-9][-+.eE0-9]*|[\[\]{},:])`)
	numbers = regexp.MustCompile(`^-?(0|[1-9][0-9]*)(\.[0-9]+)?([eE][-+]?[0-9]+)?`)
)

// firstFault looks for the faults among the tokens of the good beginning: they have all been found ahead of its end.
func firstFault(src string, depth int) (int, api.Errno) {
	good, all := goodBeginning(src)
	var open []map[string]int
	last := byte(0)
	for at := 0; at < good; {
		token := tokens.FindString(src[at:good])
		switch {
		case token == "" && strings.IndexByte(" \t\n\r", src[at]) >= 0:
			at++
			continue
		case token == "":
			return good, api.ErrJson
		case token == "[" || token == "{":
			if len(open) >= min(depth, 200) {
				return at, api.ErrDepth
			}
			open = append(open, map[string]int{})
			if token == "[" {
				open[len(open)-1] = nil
			}
		case token == "]" || token == "}":
			open = open[:len(open)-1]
		case token[0] == '"' && len(open) > 0 && open[len(open)-1] != nil && last != ':':
			keys := open[len(open)-1]
			if keys[decode(token)]++; keys[decode(token)] > 1 {
				return at, api.ErrTwice
			}
		case numbers.FindString(token) == token:
			if _, err := strconv.ParseFloat(token, 64); err != nil {
				return at, api.ErrBig
			}
		}
		last = token[0]
		at += len(token)
	}
	if !all {
		return good, api.ErrJson
	}
	return 0, api.OK
}

func decode(token string) string {
	out := ""
	if err := json.Unmarshal([]byte(token), &out); err != nil {
		panic(err)
	}
	return out
}

// otherReading is the value that the library's reader finds.
func otherReading(t *testing.T, src string) api.Value {
	t.Helper()
	from := json.NewDecoder(strings.NewReader(src))
	from.UseNumber()
	return readNext(t, src, from)
}

func readNext(t *testing.T, src string, from *json.Decoder) api.Value {
	t.Helper()
	token, err := from.Token()
	if err != nil {
		t.Fatalf("%q: %v", src, err)
	}
	switch x := token.(type) {
	case bool:
		return yes(x)
	case string:
		return text(x)
	case json.Number:
		if n, err := strconv.ParseInt(x.String(), 10, 64); err == nil {
			return num(n)
		}
		f, err := x.Float64()
		if err != nil {
			t.Fatalf("%q: %v", src, err)
		}
		return float(f)
	case json.Delim:
		v := list()
		if x == '{' {
			v = object()
		}
		for from.More() {
			if x == '[' {
				v.Items = append(v.Items, readNext(t, src, from))
				continue
			}
			name := readNext(t, src, from).Text
			v.Fields = append(v.Fields, mem(name, readNext(t, src, from)))
		}
		if _, err := from.Token(); err != nil {
			t.Fatalf("%q: %v", src, err)
		}
		return v
	}
	return api.Value{}
}

// everyText calls f with begin, and with each text of up to n more of the bytes behind it that begins a JSON text, or that is at fault by its last byte alone.
func everyText(begin, bytes string, n int, f func(src string)) {
	now := start
	for i := range len(begin) {
		now = now.step(begin[i])
	}
	goOn(now, begin, bytes, n, f)
}

func goOn(now *state, src, bytes string, n int, f func(src string)) {
	f(src)
	if n == 0 || now.isBad() {
		return
	}
	for i := range len(bytes) {
		goOn(now.step(bytes[i]), src+bytes[i:i+1], bytes, n-1, f)
	}
}

// The model is held against the chapter's own examples, so that it says what they say.
func TestModel(t *testing.T) {
	for _, c := range faultExamples() {
		if at, e := firstFault(c.src, max(c.depth, 0)); at != c.at || e != c.errno {
			t.Errorf("firstFault(%q, %d) = %d, %d; want %d, %d", c.src, c.depth, at, e, c.at, c.errno)
		}
	}
	for _, c := range valueExamples() {
		if at, e := firstFault(c.src, 9); at != 0 || e != api.OK {
			t.Errorf("firstFault(%q) = %d, %d", c.src, at, e)
		}
		if got := otherReading(t, c.src); whole(got) != whole(c.want) {
			t.Errorf("%q is %s", c.src, whole(got))
		}
	}
}
