package check_test

import (
	"strings"
	"testing"

	"pergola/api"
	"pergola/check"
)

func checkRows(t *testing.T, types string, rows []row) {
	t.Helper()
	system := sound(t, types)
	for _, r := range rows {
		doc := parse(t, r.doc)
		if got := told(check.All(system, doc)); got != r.want {
			t.Errorf("%s: got %q, want %q", r.doc, got, r.want)
		}
		hold(t, r.doc, system, doc)
	}
}

// P21.1: the chapter's examples.
func TestExamples(t *testing.T) {
	checkRows(t, "type Query {a: Int}", []row{
		{"{a}", ""},
		{"query A {b} query A {a}", "OpTwice 1:1 1:13; FieldNone 1:10"},
	})
}

// perKind are documents with one fault each, a document for each kind.
func perKind() []row {
	return []row{
		{"query A {a} query A {a}", "OpTwice 1:1 1:13"},
		{"query A {a} {a}", "OpAlone 1:13"},
		{"subscription {a b}", "OpSingle 1:1"},
		{"mutation {a}", "OpRoot 1:1"},
		{"{z}", "FieldNone 1:2"},
		{"{a a: f(n: 1)}", "Overlap 1:2 1:4"},
		{"{a {b}}", "LeafSels 1:2"},
		{"{q}", "NoSels 1:2"},
		{"{a(z: 1)}", "ArgNone 1:4"},
		{"{f(n: 1 n: 1)}", "ArgSame 1:4 1:9"},
		{"{f}", "ArgMissing 1:2"},
		{"{...F} fragment F on Query {a} fragment F on Query {a}", "FragTwice 1:8 1:32"},
		{"{... on X {a}}", "FragType 1:2"},
		{"{... on P {a}}", "FragKind 1:2"},
		{"{a} fragment F on Query {a}", "FragUnused 1:5"},
		{"{...F}", "FragNone 1:2"},
		{"{...F} fragment F on Query {a ...F}", "FragRing 1:31"},
		{"{... on Apart {a}}", "FragNever 1:2"},
		{`{f(n: "1")}`, "Value 1:7"},
		{"{f(n: 1 p: {n: 1 z: 1})}", "InFieldNone 1:18"},
		{"{f(n: 1 p: {n: 1 n: 1})}", "InFieldSame 1:13 1:18"},
		{"{f(n: 1 p: {})}", "InFieldMissing 1:12"},
		{"{a @z}", "DirNone 1:4"},
		{"{... @one(k: 1) {a}}", "DirPlace 1:6"},
		{"{a @one(k: 1) @one(k: 1)}", "DirSame 1:4 1:15"},
		{"query ($v: Int $v: Int) {f(n: 1 i: $v)}", "VarTwice 1:8 1:16"},
		{"query ($v: Query) {f(n: 1 i: $v)}", "VarType 1:8"},
		{"{f(n: 1 i: $v)}", "VarNone 1:12 1:1"},
		{"query ($v: Int) {a}", "VarUnused 1:8"},
		{"query ($v: Int) {f(n: $v)}", "VarPlace 1:8 1:23"},
	}
}

// P21.1: each rule of all groups is asked, and nothing but it is told where it alone is broken.
func TestEachKind(t *testing.T) {
	rows := perKind()
	checkRows(t, zoo, rows)
	for i, r := range rows {
		if kind := api.ErrOpTwice + api.Errno(i); !strings.HasPrefix(r.want, kindText(kind)+" ") {
			t.Errorf("kind %d: %s", kind, r.want)
		}
	}
	if len(rows) != int(api.ErrVarPlace-api.ErrOpTwice)+1 {
		t.Error("rows:", len(rows))
	}
}

// right is a document of all parts in which no rule is broken.
const right = `query A ($i: Int = 1 $n: Int! $p: P $e: E) @one(k: 1) {
		a f(i: $i n: $n p: {n: 1 p: $p s: [$p] e: $e}) x: f(n: 2) @one(k: 3) @many @many
		q {a ... {a} ... on Query {q {a}} ...F} i {a ... on Other {s}} u {__typename ...G} o {s}
		__schema {types {name}} __type(name: "E") {kind}
	}
	subscription B {t: q {...F}}
	fragment F on Query {a z: q {a}}
	fragment G on U {... on Query {...F @many} ... on Other {a s}}`

// wrong is a document in which each rule is broken.
const wrong = `query A ($v: Int $v: Int $q: Query $u: Int @one(k: 1)) {z a a: f(n: 1) q f(z: 1 n: $v n: $w)
		f: f k: a {b} ... on X {a} ... on P {a} ... on Apart {a} ...F ...N m: f(n: "1" p: {z: 1 z: 1})
		a @z @one(k: 1) @one(k: 2)}
	query A {a} {a} subscription {a b} mutation {a}
	fragment F on Query {...F} fragment F on Query {a} fragment U on U {__typename}`

// P21.1: the faults of all groups stand in one list, sorted by their kinds and places, not by groups.
func TestAllKindsTogether(t *testing.T) {
	checkRows(t, zoo, []row{
		{right, ""},
		{"{z a @z q b}", "FieldNone 1:2; FieldNone 1:11; NoSels 1:9; DirNone 1:6"},
		{"{f(n: $a) f(n: $b z: $a) y x}", "FieldNone 1:26; FieldNone 1:28; Overlap 1:2 1:11; ArgNone 1:19; VarNone 1:7 1:1; VarNone 1:16 1:1; VarNone 1:22 1:1"},
		{"{...G ...F @z} fragment F on P {a} fragment F on Query {a(z: 1)}", "ArgNone 1:59; FragTwice 1:16 1:36; FragKind 1:16; FragNone 1:2; DirNone 1:12"},
	})
	types := sound(t, zoo)
	kinds := map[api.Errno]bool{}
	for _, f := range hold(t, wrong, types, parse(t, wrong)) {
		kinds[f.Kind] = true
	}
	for kind := api.ErrOpTwice; kind <= api.ErrVarPlace; kind++ {
		if !kinds[kind] {
			t.Error("not told:", kindText(kind))
		}
	}
}

// P21.1: documents of all pairs of kinds: what is wrong by one rule hides nothing of another.
func TestPairsOfKinds(t *testing.T) {
	types := sound(t, zoo)
	// Fragments of other names, for one that the first document brings may be what the second lacks.
	rename := strings.NewReplacer("...F", "...G", "fragment F", "fragment G")
	for i, one := range perKind() {
		for k, other := range perKind() {
			src := one.doc + " " + rename.Replace(other.doc)
			kinds := map[api.Errno]bool{}
			for _, f := range hold(t, src, types, parse(t, src)) {
				kinds[f.Kind] = true
			}
			if !kinds[api.ErrOpTwice+api.Errno(i)] || !kinds[api.ErrOpTwice+api.Errno(k)] {
				t.Errorf("%s: a kind is missing", src)
			}
		}
	}
}

// An empty document has no fault, whatever the types are.
func TestEmptyDocument(t *testing.T) {
	if got := check.All(sound(t, zoo), api.Document{}); len(got) > 0 {
		t.Error(told(got))
	}
	if got := check.All(nil, api.Document{}); len(got) > 0 {
		t.Error(told(got))
	}
}
