package fields_test

import "testing"

// P17.1: ErrOpTwice is one fault for each name; fragments' names and no name don't count.
func TestSameOperations(t *testing.T) {
	checkRows(t, zoo, operations, []row{
		{"query A {e} query B {e}", ""},
		{"query A {e} query a {e}", ""},
		{"query A {e} query A {e}", "OpTwice 1:1 1:13"},
		{"query A {e} mutation A {o} subscription A {o}", "OpTwice 1:1 1:13 1:28"},
		{"query B {e} query A {e} query B {e}\nquery A {e} query B {e}", "OpTwice 1:1 1:25 2:13; OpTwice 1:13 2:1"},
		{"query A {e} fragment A on Root {e}", ""},
		{"fragment A on Root {e} fragment A on Root {e}", ""},
		{"fragment A on Root {e} query A {e} fragment A on Root {e} query A {e}", "OpTwice 1:24 1:59"},
	})
}

// P17.1: ErrOpAlone is told of operations without a name, beside any other operation.
func TestAlone(t *testing.T) {
	checkRows(t, zoo, operations, []row{
		{"{e}", ""},
		{"query {e}", ""},
		{"query A {e}", ""},
		{"{e} fragment F on Root {e} fragment G on Root {e}", ""},
		{"{e} query A {e}", "OpAlone 1:1"},
		{"query A {e} {e}", "OpAlone 1:13"},
		{"query A {e} mutation {o}", "OpAlone 1:13"},
		{"{e} query {e} query($v: Int) {e} mutation {o} subscription {o}", "OpAlone 1:1; OpAlone 1:5; OpAlone 1:15; OpAlone 1:34; OpAlone 1:47"},
		{"fragment F on Root {e}\n  {e} subscription S {o}", "OpAlone 2:3"},
	})
}

// P17.1: ErrOpSingle: a subscription's top fields have one key.
func TestSingleKey(t *testing.T) {
	checkRows(t, zoo, operations, []row{
		{"subscription {o {a}}", ""},
		{"subscription {o {a n {n}}}", ""},
		{"subscription {o {a} v}", "OpSingle 1:1"},
		{"subscription {o o o}", ""},
		{"subscription {o x: o}", "OpSingle 1:1"},
		{"subscription {x: o x: v}", ""},
		{"subscription {o: v o}", ""},
		{"subscription {x: o y: o}", "OpSingle 1:1"},
		{"subscription {nope}", ""},
		{"subscription {nope other}", "OpSingle 1:1"},
		{"query {o e} mutation {o m}", "OpAlone 1:1; OpAlone 1:13"},
		// directives and type conditions say nothing
		{"subscription {o v @skip(if: true)}", "OpSingle 1:1"},
		{"subscription {o v @include(if: false)}", "OpSingle 1:1"},
		{"subscription {o ... @skip(if: true) {v}}", "OpSingle 1:1"},
		{"subscription {o ... on Root {e}}", "OpSingle 1:1"},
		{"subscription {o ... on Nope {e}}", "OpSingle 1:1"},
		{"subscription {o ...F @skip(if: true)} fragment F on Root {e}", "OpSingle 1:1"},
		// through inline fragments
		{"subscription {... {o}}", ""},
		{"subscription {... {... on Feed {... {o}}} o}", ""},
		{"subscription {... {... on Feed {... {o}}} v}", "OpSingle 1:1"},
		{"subscription {... {o} ... {x: o}}", "OpSingle 1:1"},
		{"subscription {... {o {... {a e} ...F}}} fragment F on O {a n}", ""},
		// each by itself
		{"subscription A {o v} subscription B {o} subscription C {v o}", "OpSingle 1:1; OpSingle 1:41"},
	})
}

// P17.1: ErrOpSingle: top fields that stand there through spreads.
func TestSingleKeyInFragments(t *testing.T) {
	checkRows(t, zoo, operations, []row{
		{"subscription {...F} fragment F on Feed {o}", ""},
		{"subscription {...F ...F o} fragment F on Feed {o}", ""},
		{"subscription {...F} fragment F on Feed {o v}", "OpSingle 1:1"},
		{"subscription {...F v} fragment F on Feed {o}", "OpSingle 1:1"},
		{"subscription {...F ...G} fragment F on Feed {o} fragment G on Feed {o}", ""},
		{"subscription {...F ...G} fragment F on Feed {o} fragment G on Feed {v}", "OpSingle 1:1"},
		{"subscription {... {...F}} fragment F on Feed {... {...G}} fragment G on Feed {... {x: o}}", ""},
		{"subscription {... {...F} o} fragment F on Feed {... {...G}} fragment G on Feed {... {x: o}}", "OpSingle 1:1"},
		// what stands deeper down is not at the top
		{"subscription {o {...F}} fragment F on O {a n x: a}", ""},
		{"subscription {...F} fragment F on Feed {o {...G}} fragment G on O {a n __typename}", ""},
		// the first fragment of a name counts, wherever it stands
		{"subscription {...F} fragment F on Feed {o} fragment F on Feed {o v}", ""},
		{"fragment F on Feed {o v} subscription {...F} fragment F on Feed {o}", "OpSingle 1:26"},
		// rings
		{"subscription {...F} fragment F on Feed {o ...F}", ""},
		{"subscription {...F} fragment F on Feed {o ...G} fragment G on Feed {o ...F}", ""},
		{"subscription {...F} fragment F on Feed {o ...G} fragment G on Feed {v ...F}", "OpSingle 1:1"},
		{"subscription {...G} fragment F on Feed {o ...G} fragment G on Feed {...H ...F} fragment H on Feed {...G}", ""},
		{"subscription {...H} fragment F on Feed {o v ...G} fragment G on Feed {...H ...F} fragment H on Feed {...G}", "OpSingle 1:1"},
		// no key at all
		{"subscription {...F} fragment F on Feed {...F}", "OpSingle 1:1"},
		{"subscription {...F} fragment F on Feed {...G} fragment G on Feed {...F}", "OpSingle 1:1"},
		{"subscription {...Nope}", "OpSingle 1:1"},
		{"subscription {...Nope o}", ""},
		{"subscription S {...S}", "OpSingle 1:1"},
		// what a fragment has is not its spreaders' fault, nor its neighbours'
		{"subscription A {...F} subscription B {...G} fragment F on Feed {o} fragment G on Feed {...F v}", "OpSingle 1:23"},
		{"query A {...G} subscription B {...F} fragment F on Feed {o} fragment G on Feed {v ...F}", ""},
	})
}

// P17.1: ErrOpSingle: no top field is one of introspection.
func TestSingleWithoutIntrospection(t *testing.T) {
	checkRows(t, zoo, operations, []row{
		{"subscription {__typename}", "OpSingle 1:1"},
		{"subscription {x: __typename}", "OpSingle 1:1"},
		{"subscription {o: __typename o}", "OpSingle 1:1"},
		{"subscription {o o: __typename}", "OpSingle 1:1"},
		{"subscription {__schema {types {name}}}", "OpSingle 1:1"},
		{"subscription {__}", "OpSingle 1:1"},
		{"subscription {__nope}", "OpSingle 1:1"},
		{"subscription {_typename}", ""},
		{"subscription {a__b}", ""},
		{"subscription {__x: o}", ""},
		{"subscription {o {__typename}}", ""},
		{"subscription {... {__typename}}", "OpSingle 1:1"},
		{"subscription {...F} fragment F on Feed {__typename}", "OpSingle 1:1"},
		{"subscription {...F} fragment F on Feed {x: __typename ...F}", "OpSingle 1:1"},
		{"subscription {...F o} fragment F on Feed {o: __typename}", "OpSingle 1:1"},
		{"{__typename __schema {types {name}}}", ""},
		{"mutation {__typename}", ""},
	})
}

// P17.1: ErrOpRoot is told of each operation of a kind that has no root.
func TestNoRoot(t *testing.T) {
	rows := []row{
		{"{e}", ""},
		{"mutation {o}", "OpRoot 1:1"},
		{"subscription {o}", "OpRoot 1:1"},
		{"query A {e} mutation B {o} mutation C {o} subscription D {o}", "OpRoot 1:13; OpRoot 1:28; OpRoot 1:43"},
		{"subscription {o e}", "OpSingle 1:1; OpRoot 1:1"},
		{"fragment F on Change {o}", ""},
	}
	checkRows(t, rootless(), operations, rows)
	checkRows(t, "type Query {a: Int} type Mutation {a: Int} input Subscription {a: Int}", operations, []row{
		{"query A {a} mutation B {a} subscription C {a}", "OpRoot 1:28"},
	})
	checkRows(t, "type Q {a: Int} type Mutation {a: Int} schema {query: Q}", operations, []row{
		{"query A {a} mutation B {a}", "OpRoot 1:13"},
	})
}
