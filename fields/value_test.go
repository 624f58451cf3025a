package fields_test

import "testing"

// P17.1: the values of arguments, by layer 13 at the arguments' types.
func TestValuesOfArguments(t *testing.T) {
	checkRows(t, zoo, values, []row{
		{"{f(x: 1 y: {c: 1 b: [A B]} z: 3 w: {a: [B]}) {a}}", ""},
		{`{f(x: "1") {a}}`, "Value 1:7"},
		{"{f(x: null) {a}}", "Value 1:7"},
		{"{f(x: 2147483648) {a}}", "Value 1:7"},
		{"{f(x: 1 z: null) {a}}", "Value 1:12"},
		{"{f(x: 1 z: [1 null 2.5]) {a}}", "Value 1:15; Value 1:20"},
		{"{f(x: $v y: {c: $v b: $v a: $v} z: [$v] w: [$v]) {a}}", ""},
		{"{f(x: 1 y: {a: {} nope: 1 b: C}) {a}}", "Value 1:30; InFieldNone 1:19; InFieldMissing 1:12; InFieldMissing 1:16"},
		{"{f(x: 1 y: {c: 1 c: 2 d: {k: 1 k: [{l: 1 l: 2}]}}) {a}}", "InFieldSame 1:13 1:18; InFieldSame 1:27 1:32; InFieldSame 1:37 1:42"},
		{"{f(x: 1 y: {c: 1 e: {c: 1 e: [{c: \"\"} {}]}}) {a}}", "Value 1:35; InFieldMissing 1:39"},
		{"{f(x: 1 w: 1e999) {a}}", "Value 1:12"},
		{"{f(x: 1 w: null y: null) {a}}", ""},
		{"{o {a(e: A l: {c: 1})} }", ""},
		{"{o {a(e: C l: [[{c: 1}] null {c: 1} [null]])} }", "Value 1:10; Value 1:38"},
		{"{__type(name: 1) {fields(includeDeprecated: 1) {name}}}", "Value 1:15; Value 1:45"},
		{"{__type(name: \"x\") {fields(includeDeprecated: null) {name}}}", ""},
		{"{f(x: 1 x: A x: \"\") {a}}", "Value 1:12; Value 1:17"},
		{"mutation {m(p: {c: A}) {o}} subscription {t(x: A)} fragment F on Root {f(x: A) {a}}", "Value 1:20; Value 1:48; Value 1:77"},
	})
}

// P17.1: where no type is known, only what is asked of every object.
func TestUntypedValues(t *testing.T) {
	checkRows(t, zoo, values, []row{
		{"{nope(x: 1 y: null z: [A {b: 1e999}])}", ""},
		{"{nope(x: {k: 1 k: 2 l: 3})}", "InFieldSame 1:11 1:16"},
		{"{nope(x: [[{k: {l: 1 l: 2}}]])}", "InFieldSame 1:17 1:22"},
		{"{f(x: 1 nope: {k: 1 k: 2}) {a}}", "InFieldSame 1:16 1:21"},
		{"{... on Nope {f(x: \"\")}}", ""},
		{"{e @nope(x: {k: 1 k: 2}) @field(x: {k: 1 k: 2})}", "InFieldSame 1:14 1:19; InFieldSame 1:37 1:42"},
		{"query ($v: Nope = {k: 1 k: 2}) {e}", "InFieldSame 1:20 1:25"},
		{"query ($v: Nope! = null, $w: [Root!]! = [null A {c: 1}]) {e}", ""},
		{"query ($v: O = {a: {} a: 1}) {e}", "InFieldSame 1:17 1:23"},
	})
}

// P17.1: the values of directives' arguments, at all places.
func TestValuesOfDirectives(t *testing.T) {
	checkRows(t, zoo, values, []row{
		{"{e @skip(if: true) @include(if: $v) @all(x: null y: [])}", ""},
		{`{e @skip(if: "true") @include(if: null)}`, "Value 1:14; Value 1:35"},
		{"query ($v: Int @all(x: A)) @all(x: A) {... @all(x: A) {e} ...F @all(x: A)} fragment F on Root @all(x: A) {e @all(x: A)}", "Value 1:24; Value 1:36; Value 1:52; Value 1:72; Value 1:103; Value 1:117"},
		{"{nope @all(y: {})}", "InFieldMissing 1:15"},
		{"{e @deprecated(reason: 1) @specifiedBy(url: 1)}", "Value 1:24; Value 1:45"},
		{"{e @all(y: {c: 1} y: {nope: 1 c: 2})}", "InFieldNone 1:23"},
	})
}

// P17.1: the defaults of variables, at the variables' types.
func TestValuesOfDefaults(t *testing.T) {
	checkRows(t, zoo, values, []row{
		{"query ($v: Int = 1 $w: P = {c: 1} $x: [[E]] = A) {e}", ""},
		{"query ($v: Int! = null $w: [P!] = [{c: 1} null {}] $x: E = C) {e}", "Value 1:19; Value 1:43; Value 1:60; InFieldMissing 1:48"},
		{"query ($v: Int = \"\") {e} mutation ($v: Int = \"\") {o}", "Value 1:18; Value 1:46"},
		{"query ($v: S = {a: [1.5 B]} $w: ID = 1 $x: Float = 1) {e}", ""},
		{"query ($v: __TypeKind = LIST $w: __TypeKind = NOPE) {e}", "Value 1:47"},
		{"query ($v: Int = 1 @all(x: 1.5)) {e}", "Value 1:28"},
		{"query ($v: Int) {e}", ""},
	})
}

// P17.1: types that only some literal meets, through fields of input types that lead on; fields of one name in several types.
func TestValuesThroughTypes(t *testing.T) {
	checkRows(t, `type Query {f(a: A b: B e: E): Int} input A {b: B c: C x: Int} input B {a: A c: [C!]! = [] e: E s: S} input C {a: A! = {} s: S e: [E] x: String deep: D}
		input D {d: D z: Z! n: Int} input Z {n: Float!} enum E {P Q} scalar S`, values, []row{
		{"{f(a: {b: {c: {deep: {d: {d: null z: {n: 1}} z: {n: 1.5}}}}})}", ""},
		{"{f(a: {b: {c: {deep: {d: {z: {n: null}} z: {}}}}})}", "Value 1:34; InFieldMissing 1:44"},
		{"{f(a: {b: {c: {e: [P R]}} c: {x: 1 e: R}})}", "Value 1:22; Value 1:34; Value 1:39"},
		{"{f(b: {a: {x: 1.5} e: R s: {n: 1e999}} e: R)}", "Value 1:15; Value 1:23; Value 1:32; Value 1:43"},
		{"{f(b: {c: [{a: {b: {e: P e: R}}}]})}", "Value 1:29; InFieldSame 1:21 1:26"},
		{"query ($v: D = {z: {n: 1 m: 2} z: {}}) {f}", "InFieldNone 1:26; InFieldSame 1:17 1:32; InFieldMissing 1:35"},
	})
}
