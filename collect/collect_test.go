package collect_test

import (
	"math"
	"testing"

	"pergola/api"
	"pergola/collect"
	"pergola/scope"
)

// The chapter's examples.
func TestExamples(t *testing.T) {
	const second = "{o {...F ... on O {b a}} o {a ...F}} fragment F on I {a}"
	const third = "query ($t: Boolean = true) {a @skip(if: $t) ... @include(if: $t) {b: a} c: a @include(if: false) ...F @skip(if: true) ...F} fragment F on Query {d: a}"
	const fourth = "{u {...G ...H}} fragment G on P {a} fragment H on U {...G ... on O {c}}"
	checkRows(t, sound(t, chapter), []row{
		{doc: "{a b: a a}", want: "a: 0 2; b: 1"},
		{doc: second, want: "o: 0 5"},
		{second, "", "O", "0 5", "a: 8 4 6; b: 3"},
		{second, "", "P", "0 5", "a: 8 6"},
		{second, "", "O", "5", "a: 6 8"},
		{second, "", "O", "5 0", "a: 6 8 4; b: 3"},
		{doc: third, want: "b: 2; d: 6"},
		{doc: third, given: `{"t":null}`, want: "a: 0; d: 6"},
		{fourth, "", "O", "0", "c: 6"},
		{fourth, "", "P", "0", "a: 3"},
		{fourth, "", "Query", "0", ""},
		{fourth, "", "I", "0", ""},
		{fourth, "", "X", "0", ""},
		{fourth, "", "O", "7 -1 99", ""},
	})
}

// Left out: by skip and include, literals and variables, at selections of each kind.
func TestLeftOut(t *testing.T) {
	types := sound(t, zoo)
	const in, out = "k: 0; z: 2", "z: 2"
	for _, r := range []struct{ dirs, given, want string }{
		{"", `{}`, in},
		{"@skip(if: true)", `{}`, out},
		{"@skip(if: false)", `{}`, in},
		{"@include(if: true)", `{}`, in},
		{"@include(if: false)", `{}`, out},
		{"@skip(if: false) @include(if: true)", `{}`, in},
		{"@include(if: true) @skip(if: false)", `{}`, in},
		{"@skip(if: true) @include(if: true)", `{}`, out},
		{"@include(if: true) @skip(if: true)", `{}`, out},
		{"@skip(if: false) @include(if: false)", `{}`, out},
		{"@include(if: false) @skip(if: false)", `{}`, out},
		{"@include(if: false) @skip(if: true)", `{}`, out},
		{"@many(if: true) @many(if: false) @many", `{}`, in},
		{"@many(if: false) @skip(if: false) @many(if: true)", `{}`, in},
		{"@many(if: true) @include(if: false) @many(if: true)", `{}`, out},
		{"@skip(if: $v)", `{}`, in},
		{"@skip(if: $v)", `{"v":true}`, out},
		{"@skip(if: $v)", `{"v":false}`, in},
		{"@skip(if: $v)", `{"v":null}`, in},
		{"@include(if: $v)", `{}`, out},
		{"@include(if: $v)", `{"v":true}`, in},
		{"@include(if: $v)", `{"v":false}`, out},
		{"@include(if: $v)", `{"v":null}`, out},
		{"@skip(if: $w)", `{}`, out},
		{"@skip(if: $w)", `{"w":true}`, out},
		{"@skip(if: $w)", `{"w":false}`, in},
		{"@skip(if: $w)", `{"w":null}`, in},
		{"@include(if: $w)", `{}`, in},
		{"@include(if: $w)", `{"w":false}`, out},
		{"@include(if: $w)", `{"w":null}`, out},
		{"@skip(if: $v) @include(if: $w)", `{"v":false}`, in},
		{"@skip(if: $w) @include(if: $v)", `{"v":true}`, out},
		{"@skip(if: $v) @include(if: $v)", `{"v":true}`, out},
		{"@skip(if: $v) @include(if: $v)", `{"v":null}`, out},
	} {
		const head = "query ($v: Boolean = false $w: Boolean = true) @uses(of: [$v $w]) "
		checkRows(t, types, []row{
			{doc: head + "{k: a " + r.dirs + " y: a @skip(if: true) z: b}", given: r.given, want: r.want},
			{doc: head + "{... " + r.dirs + " {k: a} z: b}", given: r.given, want: shifted(r.want, "k: 1; z: 2")},
			{doc: head + "{... on I " + r.dirs + " {k: a} z: b}", given: r.given, want: shifted(r.want, "k: 1; z: 2")},
			{doc: head + "{...F " + r.dirs + " y: a @skip(if: true) z: b} fragment F on Query {k: a}", given: r.given, want: shifted(r.want, "k: 3; z: 2")},
			{doc: head + "{q {k: a " + r.dirs + " z: b}}", given: r.given, object: "Query", nodes: "0", want: shifted(r.want, "k: 1; z: 2")},
			{doc: head + "{...F} fragment F on Query {k: a " + r.dirs + " z: b}", given: r.given, want: shifted(r.want, "k: 1; z: 2")},
		})
	}
}

// shifted is what is wanted where the numbers are others.
func shifted(want, full string) string {
	if want == "z: 2" {
		return want
	}
	return full
}

// The variables as they are handed in: the first of a name counts, and nothing is true but a boolean's true.
func TestVariablesHandedIn(t *testing.T) {
	types := sound(t, zoo)
	doc := valid(t, types, "query ($v: Boolean = true) {s: a @skip(if: $v) i: a @include(if: $v)}")
	yes, no := api.Value{Kind: api.KindBool, Bool: true}, api.Value{Kind: api.KindBool}
	for _, r := range []struct {
		name string
		vars []api.Member
		want string
	}{
		{"none", nil, "s: 0"},
		{"another name", []api.Member{{Name: "V", Value: yes}, {Name: "", Value: yes}, {Name: "if", Value: yes}, {Name: "$v", Value: yes}}, "s: 0"},
		{"true", []api.Member{{Name: "v", Value: yes}}, "i: 1"},
		{"false", []api.Member{{Name: "v", Value: no}}, "s: 0"},
		{"null", []api.Member{{Name: "v"}}, "s: 0"},
		{"true, then false", []api.Member{{Name: "u", Value: no}, {Name: "v", Value: yes}, {Name: "v", Value: no}}, "i: 1"},
		{"false, then true", []api.Member{{Name: "u", Value: yes}, {Name: "v", Value: no}, {Name: "v", Value: yes}}, "s: 0"},
		{"null, then true", []api.Member{{Name: "v"}, {Name: "v", Value: yes}}, "s: 0"},
		{"true with all that doesn't count", []api.Member{{Name: "v", Value: api.Value{Kind: api.KindBool, Bool: true, Int: 7, Text: "false", Items: []api.Value{no}}}}, "i: 1"},
	} {
		if got := told(collect.New(types, doc, 0, r.vars).Root()); got != r.want {
			t.Errorf("%s: got %s, want %s", r.name, got, r.want)
		}
	}
	for kind := api.Kind(-2); kind < 12; kind++ {
		v := api.Value{Kind: kind, Bool: true, Int: 1, Float: 1, Text: "true", Items: []api.Value{yes}}
		want := "s: 0"
		if kind == api.KindBool {
			want = "i: 1"
		}
		if got := told(collect.New(types, doc, 0, []api.Member{{Name: "v", Value: v}}).Root()); got != want {
			t.Errorf("kind %d: got %s, want %s", kind, got, want)
		}
	}
}

// Which fragments and inline fragments apply to which objects.
func TestApplies(t *testing.T) {
	const inline = "{v {... {z: __typename} ... on I {i: __typename} ... on J {j: __typename} ... on U {u: __typename} ... on V {v: __typename} ... on Query {q: __typename} ... on O {o: __typename} ... on P {p: __typename} ... on Apart {a: __typename}}}"
	const spread = "{v {...I ...J ...U ...V ...Q ...O ...P ...A}} fragment I on I {i: __typename} fragment J on J {j: __typename} fragment U on U {u: __typename} fragment V on V {v: __typename} fragment Q on Query {q: __typename} fragment O on O {o: __typename} fragment P on P {p: __typename} fragment A on Apart {a: __typename}"
	const nested = "{v {... on I {a ... on J {b ... on U {... on O {i {a}} ... on V {... on O {c}}}}} ... on U {... on P {c}}}}"
	const system = "{__schema {... {types {... on __Type {name}}}} __type(name: \"E\") {...T}} fragment T on __Type {kind}"
	checkRows(t, sound(t, zoo), []row{
		{inline, "", "Query", "0", "z: 2; i: 4; v: 10; q: 12"},
		{inline, "", "O", "0", "z: 2; i: 4; j: 6; u: 8; v: 10; o: 14"},
		{inline, "", "P", "0", "z: 2; i: 4; u: 8; v: 10; p: 16"},
		{inline, "", "Apart", "0", "z: 2; v: 10; a: 18"},
		{inline, "", "Change", "0", "z: 2; i: 4"},
		{inline, "", "Feed", "0", "z: 2"},
		{inline, "", "__Type", "0", "z: 2"},
		{spread, "", "Query", "0", "i: 9; v: 12; q: 13"},
		{spread, "", "O", "0", "i: 9; j: 10; u: 11; v: 12; o: 14"},
		{spread, "", "P", "0", "i: 9; u: 11; v: 12; p: 15"},
		{spread, "", "Apart", "0", "v: 12; a: 16"},
		{spread, "", "Change", "0", "i: 9"},
		{spread, "", "Feed", "0", ""},
		{nested, "", "O", "0", "a: 2; b: 4; i: 7; c: 11"},
		{nested, "", "P", "0", "a: 2; c: 14"},
		{nested, "", "Query", "0", "a: 2"},
		{nested, "", "Apart", "0", ""},
		{doc: system, want: "__schema: 0; __type: 5"},
		{system, "", "__Schema", "0", "types: 2"},
		{system, "", "__Type", "2", "name: 4"},
		{system, "", "__Type", "5", "kind: 7"},
		{system, "", "__Type", "2 5 2", "name: 4 4; kind: 7"},
		{system, "", "Query", "5", ""},
	})
	for _, none := range []string{"I", "J", "U", "V", "S", "E", "N", "Int", "__TypeKind", "Nope", "query", "Query ", "Query!"} {
		for _, doc := range []string{inline, spread, nested, system} {
			checkRows(t, sound(t, zoo), []row{{doc, "", none, "0 1 2 3 4 5", ""}})
		}
	}
}

// The set of fragments' names.
func TestFragmentsAreMetOnce(t *testing.T) {
	const here = " fragment F on I {k: a ...G} fragment G on I {l: a}"
	const under = "{q {...F a} q {b ...F} q {...G ...F}}" + here
	checkRows(t, sound(t, zoo), []row{
		{doc: "{...F ...F ...G}" + here, want: "k: 3; l: 5"},
		{doc: "{...G ...F ...G}" + here, want: "l: 5; k: 3"},
		{doc: "{... {...F} b ... on I {...F c: b}}" + here, want: "k: 6; l: 8; b: 2; c: 5"},
		// One that is left out isn't met, neither by its own directive nor by one around it.
		{doc: "{...F @skip(if: true) a ...F}" + here, want: "a: 1; k: 3; l: 5"},
		{doc: "{... @skip(if: true) {...F} a ...F}" + here, want: "a: 2; k: 4; l: 6"},
		{doc: "{...F ...F @skip(if: true) ...G @include(if: false)}" + here, want: "k: 3; l: 5"},
		{doc: "{...H ...F} fragment H on I {...F @include(if: false) a}" + here, want: "a: 3; k: 4; l: 6"},
		// One that doesn't apply is met, and what is in it is not.
		{"{i {...X ... on U {...X} ...Y}} fragment X on P {...Y a} fragment Y on I {b}", "", "O", "0", "b: 7"},
		{"{i {...X ... on U {...X} ...Y}} fragment X on P {...Y a} fragment Y on I {b}", "", "P", "0", "b: 7; a: 6"},
		// What is in an inline fragment that doesn't apply is not met.
		{"{i {... on P {...X} ... on O {...X}}} fragment X on I {b}", "", "O", "0", "b: 5"},
		// All nodes of one call share the set; the next call has one of its own.
		{under, "", "Query", "0 3 6", "k: 9; l: 11; a: 2; b: 4"},
		{under, "", "Query", "6 3 0", "l: 11; k: 9; b: 4; a: 2"},
		{under, "", "Query", "3", "b: 4; k: 9; l: 11"},
		{under, "", "Query", "6", "l: 11; k: 9"},
		// A fragment that is met again deeper, beneath a field, is another collection's.
		{doc: "{...F q {...F ...H}}" + here + " fragment H on Query {q {...F}}", want: "k: 4; l: 6; q: 1"},
		{"{...F q {...F ...H}}" + here + " fragment H on Query {q {...F}}", "", "Query", "1", "k: 4; l: 6; q: 7"},
		{"{...F q {...F ...H}}" + here + " fragment H on Query {q {...F}}", "", "Query", "7", "k: 4; l: 6"},
	})
}

// Groups stand in the order in which their keys were met, nodes in that in which they were met.
func TestOrder(t *testing.T) {
	checkRows(t, sound(t, zoo), []row{
		{doc: "{a}", want: "a: 0"},
		{doc: "{b a b}", want: "b: 0 2; a: 1"},
		{doc: "{a: b b: a a: b}", want: "a: 0 2; b: 1"},
		{doc: "{a: a a a: a}", want: "a: 0 1 2"},
		{doc: "{x: a(x: 1) y: a(x: 2) x: a(x: 1) a}", want: "x: 0 2; y: 1; a: 3"},
		{doc: "{...F a ... {b a} ...G} fragment G on Query {c: b a d: b} fragment F on Query {d: b b}", want: "d: 9 8; b: 10 3; a: 1 4 7; c: 6"},
		{doc: "{... {... {... {a} b} a} b}", want: "a: 3 5; b: 4 6"},
		{doc: "{__typename a __typename}", want: "__typename: 0 2; a: 1"},
		{doc: "{q {a} q {b} ... {q {a}}}", want: "q: 0 2 5"},
		{"{q {a} q {b} ... {q {a b}}}", "", "Query", "0 2 5", "a: 1 6; b: 3 7"},
		{"{q {a} q {b} ... {q {a b}}}", "", "Query", "2 5 0", "b: 3 7; a: 6 1"},
	})
}

// P24.3: which numbers count, and how often.
func TestSubNodes(t *testing.T) {
	const doc = "{q {a b ...F} ... on I {i {a}} ...F b} fragment F on Query {q {b} a}"
	types := sound(t, zoo)
	checkRows(t, types, []row{
		{doc: doc, want: "q: 0 9; i: 5; a: 11; b: 8"},
		{doc, "", "Query", "", ""},
		{doc, "", "Query", "0", "a: 1 11; b: 2; q: 9"},
		{doc, "", "Query", "0 0", "a: 1 11 1; b: 2 2; q: 9"},
		{doc, "", "Query", "9 0 9 5", "b: 10 2 10; a: 1 11 6; q: 9"},
		{doc, "", "Query", "4 7 3 -1 12 99", ""},
		{doc, "", "Query", "4 9 7 3 -1 9 12 99", "b: 10 10"},
		{doc, "", "Query", "-9223372036854775808 9223372036854775807 9", "b: 10"},
		{doc, "", "Query", "1 2 8 10 11", ""},
	})
	p := collect.New(types, valid(t, types, doc), 0, nil)
	if got := told(p.Sub("Query", []int{math.MinInt, math.MaxInt, 9, 1 << 32, -9})); got != "b: 10" {
		t.Error(got)
	}
}

// P24.3: a field that is left out is left out of groups, but what is in its braces is answered where one asks for it.
func TestSubOfWhatIsLeftOut(t *testing.T) {
	const doc = "{q @skip(if: true) {a @include(if: false) b} ... @include(if: false) {i {a}} a}"
	checkRows(t, sound(t, zoo), []row{
		{doc: doc, want: "a: 6"},
		{doc, "", "Query", "0", "b: 2"},
		{doc, "", "O", "4 0", "a: 5; b: 2"},
	})
}

// P24.2: each operation has its own root type and selections, variables or none.
func TestOperations(t *testing.T) {
	types := sound(t, zoo)
	doc := valid(t, types, "query A {a ...F} mutation B {b ...F} fragment F on I {... on Query {q: a} ... on Change {c: a} ... on O {o: a}} subscription C {i {...F}} query D {b}")
	for op, want := range []string{"a: 0; q: 5", "b: 2; c: 7", "", "i: 10", "b: 12"} {
		if got := told(collect.New(types, doc, op, nil).Root()); op != 2 && got != want {
			t.Errorf("operation %d: got %s, want %s", op, got, want)
		}
	}
	for _, op := range []int{-1, 5, 6, math.MinInt, math.MaxInt} {
		p := collect.New(types, doc, op, nil)
		if got := told(p.Root()); got != "" {
			t.Errorf("operation %d: got %s", op, got)
		}
		if got := told(p.Sub("O", []int{10})); got != "o: 9" {
			t.Errorf("operation %d: got %s", op, got)
		}
	}
}

// A fragment's own directives are not asked, nor an operation's.
func TestOwnDirectives(t *testing.T) {
	types := sound(t, zoo)
	checkRows(t, types, []row{{doc: "query @uses(of: [false]) {...F} fragment F on Query @many(if: true) @uses(of: true) {a}", want: "a: 1"}})
	doc := parse(t, "query @skip(if: true) {...F} fragment F on Query @skip(if: true) @include(if: false) {a}")
	if got := told(collect.New(types, doc, 0, nil).Root()); got != "a: 1" {
		t.Error(got)
	}
}

// P24.4: Node is layer 16's.
func TestNode(t *testing.T) {
	types := sound(t, zoo)
	const src = "query ($v: Int $w: Boolean = true) {k: a(x: $v) @skip(if: $w) ...F @many ... on V @include(if: true) {... on Query {q {b}}} z: a @skip(if: true)} fragment F on I {i {a(x: 1) ... on O {c}}}"
	doc := valid(t, types, src)
	sheet := scope.Lay(types, doc)
	p := collect.New(types, doc, 0, nil)
	for i := -3; i < 20; i++ {
		got, ok := p.Node(i)
		want, isThere := sheet.Node(i)
		alike(t, "Node", got, want)
		if ok != isThere || ok != (i >= 0 && i < 11) {
			t.Errorf("node %d: %v, want %v", i, ok, isThere)
		}
	}
	for _, i := range []int{math.MinInt, math.MaxInt} {
		if got, ok := p.Node(i); ok {
			t.Error(i, got)
		}
	}
}

// P24.5: a nil plan, and one that New hasn't made.
func TestNilPlan(t *testing.T) {
	for _, p := range []*collect.Plan{nil, {}, new(collect.Plan)} {
		for i := -1; i < 2; i++ {
			node, ok := p.Node(i)
			alike(t, "a node", node, api.Node{})
			if ok || len(p.Root()) > 0 || len(p.Sub("Query", []int{i})) > 0 || len(p.Sub("__Type", []int{i, 0})) > 0 || len(p.Sub("", nil)) > 0 {
				t.Error("an answer of a nil plan")
			}
		}
	}
}

// P24.1: a plan of its own each time.
func TestPlansAreUnlike(t *testing.T) {
	types := sound(t, zoo)
	doc := valid(t, types, "query ($v: Boolean = true) {a @skip(if: $v) b}")
	yes := []api.Member{{Name: "v", Value: api.Value{Kind: api.KindBool, Bool: true}}}
	one, two, other := collect.New(types, doc, 0, nil), collect.New(types, doc, 0, nil), collect.New(types, doc, 0, yes)
	if one == two || one == nil {
		t.Error("one plan twice")
	}
	for range 2 {
		if told(one.Root()) != "a: 0; b: 1" || told(two.Root()) != "a: 0; b: 1" || told(other.Root()) != "b: 1" {
			t.Error(told(one.Root()), told(two.Root()), told(other.Root()))
		}
	}
	if a, b := collect.New(nil, api.Document{}, 0, nil), collect.New(nil, api.Document{}, 0, nil); a == b || a == nil {
		t.Error("one plan twice, of nothing")
	}
}
