package frags_test

import (
	"testing"

	"pergola/api"
	"pergola/frags"
	"pergola/scope"
)

// P19.1: the chapter's examples.
func TestExamples(t *testing.T) {
	checkRows(t, chapter, []row{
		{"{...F} fragment F on Query {a}", ""},
		{"{a} fragment F on Query {a}", "Unused 1:5"},
		{"{...F} fragment F on Query {a} fragment F on Query {a}", "Twice 1:8 1:32"},
		{"{...F} fragment F on X {a}", "Type 1:8"},
		{"{... on X {a}}", "Type 1:2"},
		{"{... on N {a}}", "Kind 1:2"},
		{"{...F}", "None 1:2"},
		{"{...F} fragment F on Query {o {...on Query {...F}}}", "Ring 1:45; Never 1:32"},
		{"{...F} fragment F on Query {...G} fragment G on Query {...F}", "Ring 1:29; Ring 1:56"},
		{"{o {...on I {...on O {a}}}}", ""},
		{"{o {...on P {a}} i {...on P {a}} u {...on P {a}} u {...on I {a}}}", "Never 1:5; Never 1:21"},
		{"{a {...on P {a}}}", ""},
	})
}

// everything is a document with each kind of fault, some of them twice.
const everything = `query A {...F ...Nope ... on E {x} ... on Nope {x} o {...F ... on Root {x}}}
	fragment F on Root {...G x} fragment G on Root {self {...F}} fragment F on Q {...F}
	fragment H on In {x ...Nope} fragment I on Nope {... on In {...H}} fragment H on W {... on U {n}}`

// P19.1: all kinds together are sorted by kind, then by place.
func TestEverything(t *testing.T) {
	checkRows(t, zoo, []row{{
		everything,
		"Twice 2:2 2:63; Twice 3:2 3:69; Type 1:36; Type 3:31; Kind 1:23; Kind 3:2; Kind 3:51; Unused 3:31; None 1:15; None 3:22; Ring 2:22; Ring 2:56; Never 1:55; Never 1:60; Never 2:80; Never 3:86",
	}})
}

// rightAll is a document in which all is right, at all places.
const rightAll = `query A {...F n {...G ... on O {x} ... on M {n {n {...G}}}} o {...H ...G} u {...H ... on U {...G} ... on P {x}}
		v {... on Root {...F} ... on Q {x} ... on W {... on Q {x} ... on Change {o {x}}}} ... on N {n {...G} ... @skip(if: true) {...G}}
		__schema {... on __Schema {types {...T}}}}
	mutation B {... on Change {root {...F}} ...K}
	fragment F on Root {x self {...G}} fragment G on N {n {...H}} fragment H on M {... on U {... on O {x ... on N {n {n {__typename}}}}}}
	fragment T on __Type {name} fragment K on W {... on Change {o {...H}}}`

// P19.1: nothing is told where nothing is wrong.
func TestRight(t *testing.T) {
	checkRows(t, zoo, []row{{rightAll, ""}, {"{x}", ""}, {"mutation {o {... {x}}} {... {... {x}}}", ""}})
}

// P19.1: ErrFragTwice.
func TestTwice(t *testing.T) {
	checkRows(t, zoo, []row{
		{"{...F ...G} fragment F on Root {x} fragment G on Root {x}", ""},
		{"fragment F on Root {x} {...F} fragment F on Root {x}", "Twice 1:1 1:31"},
		{"{...F} fragment F on Root {x}\nfragment F on O {x}\n  fragment F on Q {x}", "Twice 1:8 2:1 3:3"},
		{"{...F ...G} fragment G on Root {x} fragment F on Root {x} fragment G on Root {x} fragment F on Root {x}", "Twice 1:13 1:59; Twice 1:36 1:82"},
		{"{x} fragment F on Root {x} fragment F on Root {x}", "Twice 1:5 1:28; Unused 1:5; Unused 1:28"},
		{"{...F ...f} fragment F on Root {x} fragment f on Root {x}", ""},
		// an operation has no fragment's name
		{"query F {...F} fragment F on Root {x}", ""},
		{"query F {x} query F {...F} mutation F {o {x}} fragment F on Root {x}", ""},
		// where two fragments bear one name, the first is the target
		{"{q {...F}} fragment F on Root {x} fragment F on Q {x}", "Twice 1:12 1:35; Never 1:5"},
		{"{q {...F}} fragment F on Q {x} fragment F on Root {x}", "Twice 1:12 1:32"},
		{"{...F} fragment F on Nope {x} fragment F on Q {x}", "Twice 1:8 1:31; Type 1:8"},
	})
}

// P19.1: ErrFragType and ErrFragKind.
func TestTypeConditions(t *testing.T) {
	checkRows(t, zoo, []row{
		{"{...F} fragment F on Nope {x}", "Type 1:8"},
		{"{...F} fragment F on root {x}", "Type 1:8"},
		{"{...F} fragment F on E {x}", "Kind 1:8"},
		{"{...F} fragment F on S {x}", "Kind 1:8"},
		{"{...F} fragment F on In {x}", "Kind 1:8"},
		{"{...F} fragment F on Int {x}", "Kind 1:8"},
		{"{...F} fragment F on __TypeKind {x}", "Kind 1:8"},
		{"{...F} fragment F on F {x}", "Type 1:8"},
		{"{... on Nope {x} ... on E {x} ... on S {x} ... on In {x} ... on String {x} ... on __DirectiveLocation {x}}", "Type 1:2; Kind 1:18; Kind 1:31; Kind 1:44; Kind 1:58; Kind 1:76"},
		// at any depth, and in braces that stand in the scope of none
		{"{o {... {... on Nope {... on E {... on Nope {x}}}}}}", "Type 1:10; Type 1:33; Kind 1:23"},
		{"{nope {... on Nope {x} ... on E {x}}}", "Type 1:8; Kind 1:24"},
		{"{...F} fragment F on E {... on Nope {x}} ", "Type 1:25; Kind 1:8"},
		// one without On is asked nothing
		{"{... {x} ... @skip(if: true) {x} nope {... {x}}}", ""},
		{"{...F} fragment F on Nope {... {x}}", "Type 1:8"},
		// of a fragment that is not used as of others; of each that has the name
		{"{x} fragment F on Nope {x} fragment G on E {x} fragment G on In {x}", "Twice 1:28 1:48; Type 1:5; Kind 1:28; Kind 1:48; Unused 1:5; Unused 1:28; Unused 1:48"},
		// a directive's name and a field's are no type's
		{"{... on skip {x} ... on self {x}}", "Type 1:2; Type 1:18"},
	})
}

// P19.1: ErrFragUnused and ErrFragNone.
func TestUses(t *testing.T) {
	checkRows(t, zoo, []row{
		{"{x} fragment F on Root {x} fragment G on Root {x}", "Unused 1:5; Unused 1:28"},
		{"fragment F on Root {x}", "Unused 1:1"},
		// a spread counts wherever it stands: beneath what is wrong, in a fragment that isn't used, in the fragment itself
		{"{nope {x {... on Nope {...F}}}} fragment F on Root {x}", "Type 1:11"},
		{"{x} fragment F on Root {...G} fragment G on Root {x}", "Unused 1:5"},
		{"{x} fragment F on Root {...F}", "Ring 1:25"},
		{"{x} fragment F on Root {...G} fragment G on Root {...F}", "Ring 1:25; Ring 1:51"},
		{"mutation {root {...F}} fragment F on Root {x}", ""},
		{"query A {x} query B {...F} fragment F on Root {x}", ""},
		// the second of a name is not unused if a spread has the name
		{"{x} fragment F on Root {x} fragment F on Root {...F}", "Twice 1:5 1:28"},
		// names count as they are written
		{"{...f} fragment F on Root {x}", "Unused 1:8; None 1:2"},
		{"{F x: x} fragment F on Root {x}", "Unused 1:10"},
		{"{...Nope ...Nope o {...Nope}}", "None 1:2; None 1:10; None 1:21"},
		{"query Nope {...Nope}", "None 1:13"},
		{"{...Root ...O}", "None 1:2; None 1:10"},
		{"{nope {...Nope}} fragment F on E {...Nope ...F}", "Kind 1:18; None 1:8; None 1:35; Ring 1:43"},
	})
}

// P19.1: ErrFragRing.
func TestRings(t *testing.T) {
	checkRows(t, zoo, []row{
		{"{...F} fragment F on Root {...F}", "Ring 1:28"},
		{"{...F} fragment F on Root {...F ...F self {...F}}", "Ring 1:28; Ring 1:33; Ring 1:44"},
		{"{...F} fragment F on Root {self {self {... {... on Root {...F}}}}}", "Ring 1:58"},
		// beneath what isn't known too
		{"{...F} fragment F on Root {nope {... on Nope {...F}}}", "Type 1:34; Ring 1:47"},
		{"{...F} fragment F on E {...F}", "Kind 1:8; Ring 1:25"},
		// rings of three, and what leads to them or from them
		{"{...A}\nfragment A on Root {...B}\nfragment B on Root {...C}\nfragment C on Root {...A}", "Ring 2:21; Ring 3:21; Ring 4:21"},
		{"{...L}\nfragment L on Root {...A}\nfragment A on Root {...B ...E}\nfragment B on Root {...A ...E}\nfragment E on Root {x}", "Ring 3:21; Ring 4:21"},
		// two rings, and a bridge that stands on neither
		{"{...A}\nfragment A on Root {...B}\nfragment B on Root {...A ...C}\nfragment C on Root {...D}\nfragment D on Root {...C}", "Ring 2:21; Ring 3:21; Ring 4:21; Ring 5:21"},
		// two rings that share a fragment, and a short way through the greater one
		{"{...A}\nfragment A on Root {...B ...C}\nfragment B on Root {...A}\nfragment C on Root {...A}", "Ring 2:21; Ring 2:26; Ring 3:21; Ring 4:21"},
		{"{...A}\nfragment A on Root {...B ...C}\nfragment B on Root {...C}\nfragment C on Root {...A}", "Ring 2:21; Ring 2:26; Ring 3:21; Ring 4:21"},
		// two ways to one fragment are no ring
		{"{...A ...B}\nfragment A on Root {...B ...C ...B}\nfragment B on Root {...C}\nfragment C on Root {x}", ""},
		// rings that no operation reaches
		{"{x}\nfragment A on Root {...B}\nfragment B on Root {...A}", "Ring 2:21; Ring 3:21"},
		// an operation is on no ring, whatever its name
		{"query F {...F} fragment F on Root {...G} fragment G on Root {x}", ""},
		{"query F {...G} fragment G on Root {...F}", "None 1:36"},
		// the second fragment of a name is on no ring, for none reaches it
		{"{...F} fragment F on Root {x} fragment F on Root {...F}", "Twice 1:8 1:31"},
		{"{...F}\nfragment F on Root {...G}\nfragment G on Root {x}\nfragment G on Root {...F}", "Twice 3:1 4:1"},
		{"{...F}\nfragment F on Root {...F}\nfragment F on Root {...F}", "Twice 2:1 3:1; Ring 2:21"},
		{"{...F}\nfragment F on Root {...G}\nfragment G on Root {...F}\nfragment F on Root {...G}", "Twice 2:1 4:1; Ring 2:21; Ring 3:21"},
	})
}

// P19.1: ErrFragNever, of inline fragments and of spreads.
func TestNever(t *testing.T) {
	for _, c := range []struct {
		in, on  string
		isApart bool
	}{
		{"o", "O", false}, {"o", "P", true}, {"o", "Root", true}, {"o", "N", false}, {"o", "M", false}, {"o", "U", false}, {"o", "V", true}, {"o", "W", true},
		{"p", "N", false}, {"p", "M", true}, {"p", "L", true}, {"p", "U", false}, {"p", "__Type", true},
		{"n", "O", false}, {"n", "Q", true}, {"n", "M", false}, {"n", "N", false}, {"n", "U", false}, {"n", "V", false}, {"n", "W", true}, {"n", "Change", true},
		{"m", "U", false}, {"m", "V", true}, {"m", "P", true}, {"m", "N", false}, {"m", "M", false},
		{"u", "U", false}, {"u", "V", true}, {"u", "W", true}, {"u", "M", false}, {"u", "Q", true}, {"u", "P", false},
		{"v", "W", false}, {"v", "N", false}, {"v", "M", true}, {"v", "Q", false}, {"v", "Change", true},
		{"w", "Change", false}, {"w", "Q", false}, {"w", "Root", true}, {"w", "V", false},
		// an interface without objects meets nothing, itself neither
		{"l", "L", true}, {"l", "O", true}, {"l", "N", true}, {"o", "L", true},
		// what isn't composite has faults of its own
		{"o", "E", false}, {"l", "In", false}, {"q", "Nope", false}, {"q", "Int", false},
		// a leaf's braces, and an unknown field's, stand in the scope of none
		{"x", "O", false}, {"e", "P", false}, {"nope", "L", false}, {"s", "__Schema", false},
	} {
		types := sound(t, zoo)
		for _, src := range []string{
			"{" + c.in + " {... on " + c.on + " {n}}}",
			"{" + c.in + " {...F}} fragment F on " + c.on + " {n}",
			"{" + c.in + " {... {... @skip(if: true) {...F}}}} fragment F on " + c.on + " {n}",
		} {
			isApart := false
			for _, f := range hold(t, src, types, parse(t, src)) {
				isApart = isApart || f.Kind == api.ErrFragNever
			}
			if isApart != c.isApart {
				t.Errorf("%s: got %v", src, isApart)
			}
		}
	}
}

// P19.1: ErrFragNever: the scopes in which selections stand, and the places at which it is told.
func TestNeverInScopes(t *testing.T) {
	checkRows(t, zoo, []row{
		{"{... on O {x}}", "Never 1:2"},
		{"mutation {... on Root {x} ...F} fragment F on O {x}", "Never 1:11; Never 1:27"},
		{"{...F} fragment F on U {... on Q {x} ...G} fragment G on V {x}", "Never 1:2; Never 1:25; Never 1:38"},
		// each is held against the type around it alone
		{"{o {... on N {... on P {... on N {... on O {x}}}}}}", ""},
		{"{o {... on P {... on O {... on O {x}}}}}", "Never 1:5; Never 1:15"},
		// each spread of one fragment by itself
		{"{o {...F} p {...F} n {...F} ...F} fragment F on O {x}", "Never 1:14; Never 1:29"},
		// none, in the scope of none; but what stands deeper again
		{"{... on Nope {... on O {... on P {x}}}}", "Type 1:2; Never 1:25"},
		{"{nope {...F}} fragment F on E {...G ... on O {...G}} fragment G on Q {x}", "Kind 1:15; Never 1:47"},
		{"subscription {... on O {...F}} fragment F on P {x}", "Never 1:25"},
		// a ring, and a target that has no type
		{"{...F} fragment F on O {...F self {...F}}", "Ring 1:25; Ring 1:36; Never 1:2"},
		{"{o {...F}} fragment F on Nope {x}", "Type 1:12"},
		{"{__schema {... on __Type {name} ... on Root {x} ... on N {n}}}", "Never 1:12; Never 1:33; Never 1:49"},
	})
}

// P19.1, R1: a nil sheet, a sheet of nothing, and a sheet that wasn't laid.
func TestNoSheet(t *testing.T) {
	for _, s := range []*scope.Sheet{nil, {}, scope.Lay(nil, api.Document{}), scope.Lay(sound(t, zoo), api.Document{})} {
		if got := frags.Check(s); len(got) != 0 {
			t.Error(told(got))
		}
	}
}
