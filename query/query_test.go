package query_test

import (
	"strings"
	"testing"

	"pergola/api"
	"pergola/query"
)

// The chapter's first example.
func TestSmallestDocuments(t *testing.T) {
	want(t, "{a}", 9, "short@1:1 { a@1:2 } ")
	want(t, "query{a}", 9, "query@1:1 { a@1:7 } ")
}

// The chapter's second example: the place of each fault.
func TestFaultsOfTheChapter(t *testing.T) {
	for _, c := range []struct{ src, fault string }{
		{"", "1:1"},
		{"{}", "1:2"},
		{"{a", "1:3"},
		{"{a}}", "1:4"},
		{"query", "1:6"},
		{"query Q Q{a}", "1:9"},
		{"query(){a}", "1:7"},
		{"{a(", "1:4"},
		{"{a:}", "1:4"},
		{"{a:b:c}", "1:5"},
		{"{...}", "1:5"},
		{"{...on}", "1:7"},
		{"{...on{a}}", "1:7"},
		{"{...a{b}}", "1:6"},
		{"fragment on on T{a}", "1:10"},
		{"fragment F T{a}", "1:12"},
		{"type T{a:Int}", "1:1"},
		{"query($a){b}", "1:9"},
		{"query($a:Int=$b){c}", "1:14"},
		{"query($a:Int @d(x:$b)){c}", "1:19"},
		{"{a} \"d\" {b}", "1:5"},
		{"{a{}}", "1:4"},
	} {
		want(t, c.src, 9, "syntax "+c.fault)
	}
}

// The chapter's third example.
func TestDepthsOfTheChapter(t *testing.T) {
	want(t, "{a{b{c}}}", 2, "depth 1:5")
	want(t, "{a{b{c}}}", 0, "depth 1:1")
	want(t, "{a(x:[[1]]){b}}", 3, "depth 1:7")
	want(t, "{a{", 1, "depth 1:3")
	want(t, "{a[", 1, "syntax 1:3")
}

// The chapter's fourth and fifth example.
func TestWordsAsNames(t *testing.T) {
	want(t, "{on: on(on: on) @on ... on on {on}}", 9, "short@1:1 { on@1:2 :on (on@1:9:eon@1:13 ) @on@1:17 ...@1:21 on on { on@1:32 } } ")
	want(t, "query query{query}", 9, "query@1:1 query { query@1:13 } ")
	want(t, "fragment fragment on fragment{fragment}", 9, "fragment@1:1 fragment on fragment { fragment@1:31 } ")
	want(t, "{...@a{b}}", 9, "short@1:1 { ...@1:2 all @a@1:5 { b@1:8 } } ")
	want(t, "{...onX}", 9, "short@1:1 { ...@1:2 =onX } ")
}

// P9.1: a source without a definition has its fault at its end, if it has no token.
func TestSourcesWithoutDefinition(t *testing.T) {
	for src, fault := range map[string]string{
		"": "1:1", " ": "1:2", "\n": "2:1", ",,\n,": "2:2", "# a": "1:4", "#\n# {a}\n": "3:1", "\ufeff": "1:2", "\r\n\r": "3:1",
		"}": "1:1", " a": "1:2", "1": "1:1", "\"s\"": "1:1", "\"\"\"k\"\"\"{a}": "1:1", "...": "1:1", "@d{a}": "1:1", "({a})": "1:1", "[": "1:1", "on T{a}": "1:1", "$v": "1:1",
		"Query{a}": "1:1", "QUERY{a}": "1:1", "queryQ{a}": "1:1", "schema{a}": "1:1", "extend type T{a:Int}": "1:1", "\n\nnull": "3:1",
		"?": "1:1", " \x80": "1:2", "\x00{a}": "1:1", "{a}\x80": "1:4", "query\n?": "2:1",
	} {
		want(t, src, 9, "syntax "+fault)
	}
	if doc, fault := query.Parse(nil, 9); len(doc.Defs) > 0 || tellFault(fault) != "syntax 1:1" {
		t.Error("Parse(nil):", doc, fault)
	}
}

// R7: the first fault is told alone; what stands behind it isn't looked at, a place without a token neither.
func TestFirstFaultAlone(t *testing.T) {
	want(t, "{a ]?", 9, "syntax 1:4")
	want(t, "{a ?]", 9, "syntax 1:4")
	want(t, "{a{b]}", 1, "depth 1:3")
	want(t, "{a]{b}", 1, "syntax 1:3")
	want(t, "{a(1){{{{", 2, "syntax 1:4")
	want(t, "{a b:{{", 1, "syntax 1:6")
	want(t, "query Q($a:Int,$b:?){c}", 9, "syntax 1:19")
	want(t, "{a}\n{b\"\n", 9, "syntax 2:3")
}

// P9.1 and R5: beside a fault the document is the zero one, and beside a document the fault.
func TestZeroBesideTheOther(t *testing.T) {
	for _, src := range []string{"{a} {b} x", "{a} query Q($v:Int)@d{b{c d}} {", "fragment F on T{a b c", "{a(x:[1 2 3])@d(", "{a}?"} {
		doc, fault := query.Parse([]byte(src), 9)
		if len(doc.Defs) != 0 || fault.Kind != api.ErrSyntax || len(fault.Pos) != 1 || len(fault.Path) != 0 {
			t.Errorf("%q: %v %v", src, doc, fault)
		}
	}
	doc, fault := query.Parse([]byte("{a{b}}"), 1)
	if len(doc.Defs) != 0 || fault.Kind != api.ErrDepth || len(fault.Pos) != 1 || len(fault.Path) != 0 {
		t.Error("ErrDepth:", doc, fault)
	}
	doc, fault = query.Parse([]byte("{a}"), 9)
	if len(doc.Defs) != 1 || fault.Kind != api.OK || len(fault.Pos) != 0 || len(fault.Path) != 0 {
		t.Error("no fault:", doc, fault)
	}
}

// The depth counts as 0 below 0, and as MostDepth above it.
func TestDepthIsClamped(t *testing.T) {
	for _, depth := range []int{-1 << 63, -1, 0} {
		want(t, "{a}", depth, "depth 1:1")
		want(t, "query{a}", depth, "depth 1:6")
		want(t, "query Q($a:Int){a}", depth, "depth 1:8")
		want(t, "query @d(a:1){a}", depth, "depth 1:9")
		want(t, "fragment F on T{a}", depth, "depth 1:16")
		want(t, "a", depth, "syntax 1:1")
		want(t, "query [", depth, "syntax 1:7")
	}
	for _, depth := range []int{199, 200, 201, 1<<63 - 1} {
		most := min(depth, 200)
		nested := strings.Repeat("{a", most) + strings.Repeat("}", most)
		if got := tell([]byte(nested), depth); !strings.HasPrefix(got, "short@1:1 ") {
			t.Errorf("%d brackets, depth %d: %s", most, depth, got)
		}
		checkSource(t, nested, depth)
		want(t, "{a"+nested+"}", depth, "depth 1:"+col(2*most+1))
		want(t, strings.Repeat("{a", 100000), depth, "depth 1:"+col(2*most+1))
	}
}

// The depth counts all three kinds of brackets, those that are open at one time alone.
func TestDepthOverAllBrackets(t *testing.T) {
	for _, c := range []struct {
		src   string
		depth int
		fault int
	}{
		{"query($a:[[Int]]=[{b:[1]}]@d(x:[1])){c}", 4, 22},
		{"query($a:[[Int]]){c}", 3, 11},
		{"query($a:Int @d(x:{y:1})){c}", 3, 19},
		{"query @d(x:[1]){c}", 2, 12},
		{"{a(x:{y:[1]})@d(z:[{}]){b(w:[[]])@e(v:1)...{c}}}", 5, 30},
		{"{a b{c} d(x:[])@e(x:{}) ...{f} ...on T{g}}", 3, 13},
		{"{a ...F@d(x:{})}", 3, 13},
		{"fragment F on T@d(x:[[1]]){a}", 3, 22},
		{"query($a:Int){a} mutation($b:Int){b} fragment F on T{c} {d}", 1, 0},
		{"{a}{b}{c{d}}", 2, 9},
	} {
		if got := tell([]byte(c.src), c.depth); strings.HasPrefix(got, "syntax") || strings.HasPrefix(got, "depth") {
			t.Errorf("%q, depth %d: %s", c.src, c.depth, got)
		}
		for depth := range c.depth + 2 {
			checkSource(t, c.src, depth)
		}
		if c.fault > 0 {
			want(t, c.src, c.depth-1, "depth 1:"+col(c.fault))
		}
	}
	want(t, strings.Repeat("{a}", 300), 1, tell([]byte(strings.Repeat("{a}", 300)), 200))
}
