package parts_test

import (
	"math/rand"
	"strconv"
	"testing"

	"pergola/api"
	"pergola/parts"
)

// zeroAnswer is what a call of a dead cursor tells.
func zeroAnswer(o call) string {
	switch o.method {
	case "WantWord", "Name":
		return "no name,false"
	case "Note":
		return "no note,false"
	case "Type", "Lit", "Args", "Dirs":
		return ",false"
	case "Refuse":
		return ""
	}
	return "false"
}

// wantDead: every call answers zero values and leaves the cursor as it is.
func wantDead(t *testing.T, what string, c *parts.Cursor, want string) {
	t.Helper()
	same(t, what, state(c), want)
	for _, o := range calls() {
		same(t, what+": "+o.String(), o.of(c), zeroAnswer(o))
		same(t, what+" behind "+o.String(), state(c), want)
	}
}

// P8.1 and 'Words': a nil cursor and the zero one are dead, without a fault.
func TestNilAndZero(t *testing.T) {
	var none *parts.Cursor
	var zero parts.Cursor
	wantDead(t, "nil", none, "E@0:0 nesting 0 fault ok,false")
	wantDead(t, "zero", &zero, "E@0:0 nesting 0 fault ok,false")
	for _, c := range []*parts.Cursor{none, &zero} {
		fault, has := c.Fault()
		if c.Token() != (api.Token{}) || has || fault.Kind != 0 || fault.Pos != nil || fault.Path != nil || c.Nesting() != 0 {
			t.Error("looking:", c.Token(), fault, has, c.Nesting())
		}
	}
}

// 'Words': the first fault stops a cursor for good, whatever its kind and whatever stands there.
func TestDead(t *testing.T) {
	for _, src := range []string{"", "a", "on", "(", ")", "[", "]", "{", "}", ":", "!", "$", "@", "...", "1", "2.5", "\"s\"", "\"\"\"k\"\"\"", "?", "01", "\"", "@a(b:1)", "[[a]]", "{a:1}"} {
		c := parts.New([]byte(src), 5)
		c.Refuse()
		wantDead(t, "refused at "+src, c, tellToken(c.Token())+" nesting 0 fault syntax 1:1,true")
	}
	c := parts.New([]byte("[[[ a"), 2)
	if _, ok := c.Lit(false); ok {
		t.Error("too deep")
	}
	wantDead(t, "too deep", c, "p[@1:3 nesting 2 fault depth 1:3,true")
	c = parts.New([]byte("( [ ) a"), 9)
	if !c.Open("(") || !c.Open("[") || c.Close("]") {
		t.Error("the wrong bracket")
	}
	wantDead(t, "the wrong bracket", c, "p)@1:5 nesting 2 fault syntax 1:5,true")
	c = parts.New([]byte("a {"), 0)
	if !c.Word("a") || c.Open("{") {
		t.Error("no bracket is free")
	}
	wantDead(t, "no bracket is free", c, "p{@1:3 nesting 0 fault depth 1:3,true")
}

// P8.1: what looking shows, and that it moves nothing.
func TestLooking(t *testing.T) {
	c := parts.New([]byte(" on # a\n[ \"x\""), 1)
	for range 3 {
		same(t, "at the first token", state(c), "non@1:2 nesting 0 fault ok,false")
		if token := c.Token(); token != (api.Token{Kind: api.TokName, Pos: api.Pos{Line: 1, Col: 2}, From: 1, To: 3, Text: "on"}) {
			t.Error(token)
		}
		if !c.IsWord("on") || !c.IsWord("a", "b", "on", "c") || !c.IsWord("on", "on") || c.IsWord() || c.IsWord("") || c.IsWord("o", "n", "onn", "On") || c.IsPunct("on") || c.IsPunct("") || c.IsPunct("[") {
			t.Error("at a name")
		}
	}
	c.Word("on")
	for range 3 {
		same(t, "at the bracket", state(c), "p[@2:1 nesting 0 fault ok,false")
		if !c.IsPunct("[") || c.IsPunct("]") || c.IsPunct("") || c.IsWord("[") || c.IsWord() {
			t.Error("at a punctuator")
		}
	}
	c.Open("[")
	same(t, "at the string", state(c), "s\"x\"@2:3 nesting 1 fault ok,false")
	if c.Token().Value != "x" || c.IsPunct("\"x\"") || c.IsWord("x", "\"x\"") {
		t.Error("at a string")
	}
	c.Refuse()
	same(t, "refused", state(c), "s\"x\"@2:3 nesting 1 fault syntax 2:3,true")
}

// Of a cursor that is dead looking at a token answers false, even where the token is the one that is asked about.
func TestLookingOfADeadOne(t *testing.T) {
	for _, src := range []string{"a", "("} {
		c := parts.New([]byte(src), 3)
		if !c.IsPunct(src) && !c.IsWord(src) {
			t.Error("alive, at", src)
		}
		c.Refuse()
		if c.IsPunct(src) || c.IsWord(src) || c.Punct(src) || c.Word(src) || c.Want(src) || c.Open(src) || c.Close(src) {
			t.Error("dead, at", src)
		}
	}
	c := parts.New(nil, 3)
	c.Refuse()
	if c.End() {
		t.Error("dead, at the end")
	}
	same(t, "at the end", state(c), "E@1:1 nesting 0 fault syntax 1:1,true")
}

// Every call at every kind of token, and every two calls one behind the other.
func TestEveryCallAtEveryToken(t *testing.T) {
	tokens := []string{"", "a", "on", "true", "null", "(", ")", "[", "]", "{", "}", ":", "!", "$", "@", "...", "|", "&", "=", "1", "-2", "2.5", "\"s\"", "\"\"\" k\"\"\"", "?", "01", "\"", "\x80"}
	for _, src := range tokens {
		for depth := -1; depth <= 1; depth++ {
			for _, o := range calls() {
				checkCalls(t, src, depth, []call{o, o})
				checkCalls(t, src+" "+src, depth, []call{o, o, o})
				checkCalls(t, src+"\n a", depth, []call{o, {"Name", nil}, {"End", nil}, {"Refuse", nil}})
			}
		}
	}
}

func TestEveryTwoCalls(t *testing.T) {
	list := calls()
	for _, src := range []string{"", "( ) on", "[ a ] {", "{ a : 1 }", "a ( on : 2 )", "@ a @ on", "\"s\" a", "... !", "? a"} {
		for i, o := range list {
			for j, p := range list {
				checkCalls(t, src, (i+j)%3, []call{o, p})
			}
		}
	}
}

// Calls by chance over sources by chance.
func TestCallsByChance(t *testing.T) {
	r := rand.New(rand.NewSource(8))
	pieces := []string{"a", "on", "(", ")", "[", "]", "{", "}", ":", "!", "$", "@", "...", "1", "\"s\"", "\"\"\"k\"\"\"", "\n", "a : 1", "@ a", "@ on ( a : [ 1 ] )", "{ a : $ on }", "[ [ a ! ] ]"}
	list := calls()
	for range 20000 {
		src := pick(r, pieces, 12)
		var some []call
		for range 12 {
			some = append(some, list[r.Intn(len(list))])
		}
		checkCalls(t, src, r.Intn(4), some)
	}
}

// A cursor asks nothing of another, of the same source or not.
func TestCursorsApart(t *testing.T) {
	src := []byte("( a ) b")
	one, two := parts.New(src, 1), parts.New(src, 1)
	if !one.Open("(") || !one.Word("a") || two.Word("a") || !two.Open("(") || !one.Close(")") {
		t.Error("apart")
	}
	two.Refuse()
	same(t, "one", state(one), "nb@1:7 nesting 0 fault ok,false")
	same(t, "two", state(two), "na@1:3 nesting 1 fault syntax 1:3,true")
	three := *one
	if !one.Word("b") || !one.End() || !three.IsWord("b") {
		t.Error("a copy")
	}
	three.Refuse()
	same(t, "one behind its copy's fault", state(one), "E@1:8 nesting 0 fault ok,false")
	same(t, "the copy", state(&three), "nb@1:7 nesting 0 fault syntax 1:7,true")
}

// Places are told in lines and columns, not in bytes.
func TestPlaces(t *testing.T) {
	c := parts.New([]byte("# é\r\n\"é\" \"\"\"\n\n\"\"\" a"), 3)
	for _, want := range []string{"2:1", "2:5"} {
		same(t, "a note's place", at(c.Token().Pos), want)
		if note, ok := c.Note(); !ok || !note.Has {
			t.Error(note, ok)
		}
	}
	if name, ok := c.Name(); !ok || name != (api.Named{Name: "a", Pos: api.Pos{Line: 4, Col: 5}}) {
		t.Error(name, ok)
	}
	for n := range 4 {
		c := parts.New([]byte("a\na\na\na "), n)
		for range n {
			c.Word("a")
		}
		if _, ok := c.WantWord("b"); ok {
			t.Error("no b stands there")
		}
		fault, has := c.Fault()
		same(t, "a fault's place", both(tellFault(fault), has), "syntax "+strconv.Itoa(n+1)+":1,true")
	}
}
