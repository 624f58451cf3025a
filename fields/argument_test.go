package fields_test

import "testing"

// P17.1: ErrArgNone: an argument that the definition of a known field or directive doesn't have.
func TestUnknownArguments(t *testing.T) {
	checkRows(t, zoo, arguments, []row{
		{"{f(x: 1 y: $v z: [1] w: 1) {a}}", ""},
		{"{e(x: 1)}", "ArgNone 1:4"},
		{"{f(x: 1 nope: 2 X: 3) {a}}", "ArgNone 1:9; ArgNone 1:17"},
		{"{o {a(x: 1)} g(x: 1 a: 1 b: 1 d: A)}", "ArgNone 1:7; ArgNone 1:16"},
		{"{n(k: 1, extra: 2) {n} o {n(k: 1 extra: 2) {n}}}", "ArgNone 1:10"},
		{"{__typename(x: 1) __type(name: 1 x: 1) {fields(includeDeprecated: 1 x: 1) {name}} __schema(x: 1) {types {name}}}", "ArgNone 1:13; ArgNone 1:34; ArgNone 1:69; ArgNone 1:92"},
		{"{nope(x: 1)}", ""},
		{"{nope {e(x: 1)}}", ""},
		{"{... on Nope {e(x: 1)}}", ""},
		{"{e @field(x: 1) @skip(if: 1 unless: 2)}", "ArgNone 1:11; ArgNone 1:29"},
		{"{e @nope(x: 1)}", ""},
		{"{nope @field(x: 1)}", "ArgNone 1:14"},
		{"query ($v: Int @variable(x: 1)) @query(x: 1) {... @inline(x: 1) {e} ...F @spread(x: 1)} fragment F on Root @fragment(x: 1) {e @query(x: 1)}", "ArgNone 1:26; ArgNone 1:40; ArgNone 1:59; ArgNone 1:82; ArgNone 1:118; ArgNone 1:134"},
	})
}

// P17.1: ErrArgSame is one fault for each name of one field or one directive's use, known or not.
func TestSameArguments(t *testing.T) {
	checkRows(t, zoo, arguments, []row{
		{"{f(x: 1 x: 1) {a}}", "ArgSame 1:4 1:9"},
		{"{f(x: 1 X: 1) {a}}", "ArgNone 1:9"},
		{"{f(x: 1 y: 1 x: 2\ny: 2 x: 3) {a}}", "ArgSame 1:4 1:14 2:6; ArgSame 1:9 2:1"},
		{"{f(x: 1 nope: 1 nope: 2) {a}}", "ArgNone 1:9; ArgNone 1:17; ArgSame 1:9 1:17"},
		{"{nope(x: 1 x: 2)}", "ArgSame 1:7 1:12"},
		{"{... on Nope {nope(x: 1 x: 2)}}", "ArgSame 1:20 1:25"},
		{"{f(x: 1) {a} f(x: 1) {a}}", ""},
		{"{f(x: 1) @all(x: 1) {a}}", ""},
		{"{e @many(x: 1 y: A) @many(x: 1 y: A) @many(x: 1 y: A x: 2)}", "ArgSame 1:44 1:54"},
		{"{e @nope(x: 1 x: 2) @nope(x: 1)}", "ArgSame 1:10 1:15"},
		{"query ($v: Int @all(x: 1 x: 2)) @all(x: 1 x: 2) {... @all(x: 1 x: 2) {e} ...F @all(x: 1 x: 2)} fragment F on Root @all(x: 1 x: 2) {e}", "ArgSame 1:21 1:26; ArgSame 1:38 1:43; ArgSame 1:59 1:64; ArgSame 1:84 1:89; ArgSame 1:120 1:125"},
	})
}

// P17.1: ErrArgMissing is one fault, however many are missing; a null and a variable are there.
func TestMissingArguments(t *testing.T) {
	checkRows(t, zoo, arguments, []row{
		{"{f {a}}", "ArgMissing 1:2"},
		{"{k: f {a}}", "ArgMissing 1:2"},
		{"{f(y: 1 z: 1 w: 1) {a}}", "ArgMissing 1:2"},
		{"{f(x: null) {a}}", ""},
		{"{f(x: $v) {a}}", ""},
		{"{f(x: \"wrong\") {a}}", ""},
		{"{g}", "ArgMissing 1:2"},
		{"{g(a: 1)}", "ArgMissing 1:2"},
		{"{g(a: 1 b: 2)}", "ArgMissing 1:2"},
		{"{g(a: 1 a: 2 a: 3)}", "ArgSame 1:4 1:9 1:14; ArgMissing 1:2"},
		{"{g(c: 1 d: A b: 2)}", "ArgMissing 1:2"},
		{"{g(d: A b: 2 a: 1)}", ""},
		{"{g(A: 1 b: 2 d: A)}", "ArgNone 1:4; ArgMissing 1:2"},
		{"{n {n} o {a}}", ""},
		{"{__type {name}}", "ArgMissing 1:2"},
		{"{__schema {types {fields {name}}}}", ""},
		{"subscription {t}", "ArgMissing 1:15"},
		{"mutation {m {m(p: 1) {o}}}", "ArgMissing 1:11"},
		{"{nope}", ""},
		{"{e @skip @include(if: $v) @all @field}", "ArgMissing 1:4"},
		{"{e @many(x: 1)}", "ArgMissing 1:4"},
		{"{e @many(x: 1) @many(y: A) @many(x: 1 y: A) @many}", "ArgMissing 1:4; ArgMissing 1:16; ArgMissing 1:45"},
		{"{e @deprecated @specifiedBy}", "ArgMissing 1:16"},
		{"query ($v: Int @many) @many {... @many {e} ...F @many} fragment F on Root @many {e @nope}", "ArgMissing 1:16; ArgMissing 1:23; ArgMissing 1:34; ArgMissing 1:49; ArgMissing 1:75"},
	})
}
