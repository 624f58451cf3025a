package sdl_test

import (
	"strings"
	"testing"

	"pergola/api"
	"pergola/sdl"
)

// The chapter's examples of faults.
func TestFaultsOfTheChapter(t *testing.T) {
	for _, c := range []struct{ src, fault string }{
		{"", "1:1"},
		{"# a", "1:4"},
		{"type T{}", "1:8"},
		{"\"d\" extend type T{a:A}", "1:5"},
		{"\"d\"", "1:4"},
		{"extend type T", "1:14"},
		{"extend type T type U", "1:15"},
		{"type T implements A, B", "1:22"},
		{"union U =", "1:10"},
		{"union U = | A |", "1:16"},
		{"enum E{A true}", "1:10"},
		{"input I{a:Int=$v}", "1:15"},
		{"directive @a on FOO", "1:17"},
		{"extend schema type T", "1:15"},
		{"schema{queri:Q}", "1:8"},
		{"{a}", "1:1"},
	} {
		want(t, c.src, 9, "syntax "+c.fault)
	}
}

// The chapter's examples of definitions.
func TestDefinitionsOfTheChapter(t *testing.T) {
	for _, c := range []struct{ src, told string }{
		{"type T", "type T@1:6 "},
		{"\"d\" type type{type:type}", "s\"d\" type type@1:10 { type@1:15 :type } "},
		{"extend type T implements A", "extend type T@1:13 &A@1:26 "},
		{"type T implements & A & B{a:[A!]!}", "type T@1:6 &A@1:21 &B@1:25 { a@1:27 :A !]!} "},
		{"type T implements A type U", "type T@1:6 &A@1:19 type U@1:26 "},
		{"union U = A | B type C", "union U@1:7 |A@1:11 |B@1:15 type C@1:22 "},
		{"directive @a(x:Int=3)repeatable on|FIELD|QUERY", "directive a@1:12 ( x@1:14 :Int =i3@1:20 ) repeatable |FIELD@1:36 |QUERY@1:42 "},
		{"schema{query:Q} extend schema@a", "schema@1:1 { query@1:8 :Q } extend schema@1:24 @a@1:30 "},
	} {
		want(t, c.src, 9, c.told)
	}
}

// The chapter's examples of depths.
func TestDepthsOfTheChapter(t *testing.T) {
	want(t, "type T{a:Int}", 1, "type T@1:6 { a@1:8 :Int } ")
	want(t, "type T{a:[Int]}", 1, "depth 1:10")
	want(t, "type T{a(b:Int):Int}", 1, "depth 1:9")
	want(t, "type T{a{", 1, "syntax 1:9")
	want(t, "type T{", 0, "depth 1:7")
	want(t, "type T @a(b:[])", 1, "depth 1:13")
}

// P10.2: a source without a definition has its fault at its end, if it has no token.
func TestSourcesWithoutDefinition(t *testing.T) {
	for src, fault := range map[string]string{
		"": "1:1", " ": "1:2", "\n": "2:1", ",,\n,": "2:2", "# a": "1:4", "#\n# type T\n": "3:1", "\ufeff": "1:2", "\r\n\r": "3:1",
		"}": "1:1", " a": "1:2", "1": "1:1", "...": "1:1", "@d": "1:1", "(": "1:1", "[": "1:1", "{": "1:1", "$v": "1:1", "&": "1:1", "|": "1:1", "=": "1:1", "!": "1:1", ":": "1:1", "1.5": "1:1",
		"query{a}": "1:1", "mutation{a}": "1:1", "subscription{a}": "1:1", "fragment F on T{a}": "1:1", "on": "1:1", "implements A": "1:1", "repeatable": "1:1", "FIELD": "1:1", "null": "1:1",
		"Type T": "1:1", "TYPE T": "1:1", "typeT": "1:1", "types T": "1:1", "object T": "1:1", "Extend type T{a:A}": "1:1",
		"\"s\"": "1:4", "\"\"\"k\"\"\"": "1:8", "\"s\" # a\n": "2:1", "\"s\" \"t\" type T": "1:5", "\"s\" query{a}": "1:5", "\"s\"{a}": "1:4", "\"s\"@d": "1:4",
		"extend": "1:7", "extend\n\n": "3:1", "extend extend type T{a:A}": "1:8", "extend \"d\" type T{a:A}": "1:8", "extend query{a}": "1:8", "extend{a}": "1:7", "extend T{a:A}": "1:8",
		"?": "1:1", " \x80": "1:2", "\x00type T": "1:1", "type T\x80": "1:7", "type\n?": "2:1", "extend ?": "1:8", "\"s": "1:1", "\"s\"?": "1:4",
	} {
		want(t, src, 9, "syntax "+fault)
	}
	if defs, fault := sdl.Parse(nil, 9); len(defs) > 0 || tellFault(fault) != "syntax 1:1" {
		t.Error("Parse(nil):", defs, fault)
	}
}

// R7: the first fault is told alone; what stands behind it isn't looked at, a place without a token neither.
func TestFirstFaultAlone(t *testing.T) {
	want(t, "type T ]?", 9, "syntax 1:8")
	want(t, "type T ?]", 9, "syntax 1:8")
	want(t, "type T{a:[A]]", 1, "depth 1:10")
	want(t, "type T{a:]A", 1, "syntax 1:10")
	want(t, "type T{a(b:A c){{{{", 2, "syntax 1:15")
	want(t, "type T{a b:[[[", 1, "syntax 1:10")
	want(t, "extend type T ?", 9, "syntax 1:15")
	want(t, "extend directive ?", 9, "syntax 1:8")
	want(t, "directive @a on FOO ?", 9, "syntax 1:17")
	want(t, "type T{a:A}\ntype U{\"b\n", 9, "syntax 2:8")
}

// P10.2 and R5: beside a fault there are no definitions, and beside definitions the fault is the zero one.
func TestZeroBesideTheOther(t *testing.T) {
	for _, src := range []string{"type T type U x", "type T{a:A b(c:C=[1 2]):B@d} union U = A | B enum E{", "extend type T", "scalar S?", "input I{a:Int=1 b:Int=2", "schema{query:Q mutation:M", "directive @d(a:A)on FIELD|"} {
		defs, fault := sdl.Parse([]byte(src), 9)
		if len(defs) != 0 || fault.Kind != api.ErrSyntax || len(fault.Pos) != 1 || len(fault.Path) != 0 {
			t.Errorf("%q: %v %v", src, defs, fault)
		}
	}
	defs, fault := sdl.Parse([]byte("type T type U{a:[A]}"), 1)
	if len(defs) != 0 || fault.Kind != api.ErrDepth || len(fault.Pos) != 1 || len(fault.Path) != 0 {
		t.Error("ErrDepth:", defs, fault)
	}
	defs, fault = sdl.Parse([]byte("type T"), 9)
	if len(defs) != 1 || fault.Kind != api.OK || len(fault.Pos) != 0 || len(fault.Path) != 0 {
		t.Error("no fault:", defs, fault)
	}
}

// The depth counts as 0 below 0, and as MostDepth above it.
func TestDepthIsClamped(t *testing.T) {
	for _, depth := range []int{-1 << 63, -1, 0} {
		want(t, "type T scalar S union U=A", depth, "type T@1:6 scalar S@1:15 union U@1:23 |A@1:25 ")
		want(t, "type T{a:A}", depth, "depth 1:7")
		want(t, "interface T{a:A}", depth, "depth 1:12")
		want(t, "schema{query:Q}", depth, "depth 1:7")
		want(t, "extend schema@a{query:Q}", depth, "depth 1:16")
		want(t, "enum E{a}", depth, "depth 1:7")
		want(t, "input I{a:A}", depth, "depth 1:8")
		want(t, "directive @d(a:A)on FIELD", depth, "depth 1:13")
		want(t, "scalar S@d(a:1)", depth, "depth 1:11")
		want(t, "scalar S{", depth, "syntax 1:9")
		want(t, "union U{", depth, "syntax 1:8")
		want(t, "type T(", depth, "syntax 1:7")
		want(t, "[", depth, "syntax 1:1")
	}
	for _, depth := range []int{199, 200, 201, 1<<63 - 1} {
		inner := min(depth, 200) - 1
		for _, c := range []struct{ ahead, left, middle, right, behind, kind string }{
			{"type T{a:", "[", "A", "]", "}", "type T@1:6 "},
			{"input I{a:A=", "{b:", "1", "}", "}", "input I@1:7 "},
			{"directive @d(a:", "[", "A", "]", ")on FIELD", "directive d@1:12 "},
			{"scalar S@d(a:", "[", "", "]", ")", "scalar S@1:8 "},
		} {
			src := c.ahead + strings.Repeat(c.left, inner) + c.middle + strings.Repeat(c.right, inner) + c.behind
			if got := tell([]byte(src), depth); !strings.HasPrefix(got, c.kind) {
				t.Errorf("%d brackets, depth %d: %s", inner+1, depth, got)
			}
			checkSource(t, src, depth)
			fault := "depth 1:" + col(len(c.ahead)+len(c.left)*inner+1)
			want(t, c.ahead+strings.Repeat(c.left, inner+1)+c.middle+strings.Repeat(c.right, inner+1)+c.behind, depth, fault)
			want(t, c.ahead+strings.Repeat(c.left, 10000), depth, fault)
		}
	}
}

// The depth counts all three kinds of brackets, those that are open at one time alone.
func TestDepthOverAllBrackets(t *testing.T) {
	for _, c := range []struct {
		src   string
		depth int
		fault int
	}{
		{"type T{a(b:[[A]]=[{b:[1]}]@d(x:[1])):A}", 5, 22},
		{"type T{a(b:[[A]]):A}", 4, 13},
		{"type T{a(b:A@d(x:{y:1})):A}", 4, 18},
		{"type T{a:A@d(x:[[1]])}", 4, 17},
		{"type T{a(b:A):[A]}", 2, 9},
		{"type T{a(b:A):[[A]]}", 3, 16},
		{"interface T@d(x:[1]){a:A}", 2, 17},
		{"schema@d(x:{y:[]}){query:Q}", 3, 15},
		{"union U@d(x:[{}])=A|B", 3, 14},
		{"enum E@d(x:[]){a@d(x:[]) b}", 3, 22},
		{"input I{a:[A]={b:[1]}@d(x:[]) c:C}", 3, 18},
		{"directive @d(a:[A]=[[1]]@d(x:{}))on FIELD", 3, 21},
		{"type T{a:A} type U{b:B} enum E{c} input I{d:D} schema{query:Q} directive @d(a:A)on FIELD", 1, 7},
		{"scalar S scalar T@d(a:1) scalar U@d(a:[])", 2, 39},
		{"type T implements A & B union U=A|B directive @d on FIELD", 0, 0},
	} {
		if got := tell([]byte(c.src), c.depth); strings.HasPrefix(got, "syntax") || strings.HasPrefix(got, "depth") {
			t.Errorf("%q, depth %d: %s", c.src, c.depth, got)
		}
		for depth := range c.depth + 2 {
			checkSource(t, c.src, depth)
		}
		if c.fault > 0 {
			want(t, c.src, c.depth-1, "depth 1:"+col(c.fault))
		}
	}
	many := strings.Repeat("type T{a:A}", 300)
	want(t, many, 1, tell([]byte(many), 200))
}

// P10.1: the definitions stand in their order, the same ones twice too.
func TestDefinitionsInOrder(t *testing.T) {
	want(t, "scalar S type T enum E{a}scalar S extend type T@d schema{query:Q}directive @d on FIELD input I interface F union U scalar S", 9,
		"scalar S@1:8 type T@1:15 enum E@1:22 { a@1:24 } scalar S@1:33 extend type T@1:47 @d@1:48 schema@1:51 { query@1:58 :Q } directive d@1:77 |FIELD@1:82 input I@1:94 interface F@1:106 union U@1:114 scalar S@1:123 ")
}

// What is passed over between tokens may stand everywhere.
func TestPassedOver(t *testing.T) {
	for _, gap := range []string{" ", "\n", ",", "# {\n", "\t,\r\n", "\ufeff"} {
		src := strings.Join(strings.Fields(`"d" type T implements & A & B @ d ( x : 1 ) { "e" a ( b : [ B ! ] = { c : 1 } ) : C ! } extend union U = | A directive @ d repeatable on | FIELD | ENUM`), gap)
		defs, fault := sdl.Parse([]byte(gap+"\n"+src+gap), 9)
		if tellFault(fault) != "ok" || len(defs) != 3 || len(defs[0].Ifaces) != 2 || len(defs[0].Fields[0].Args) != 1 || len(defs[2].Places) != 2 {
			t.Errorf("%q: %v %v", gap, defs, fault)
		}
		checkSource(t, gap+"\n"+src+gap, 9)
	}
}
