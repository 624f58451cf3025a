package vars_test

import (
	"strings"
	"testing"

	"pergola/api"
	"pergola/scope"
)

// P20.1: the chapter's examples.
func TestExamples(t *testing.T) {
	checkRows(t, chapter, []row{
		{"query ($a: Int $b: Int $a: P) {f(i: $a)}", "Twice 1:8 1:24; Unused 1:16"},
		{"query ($q: Query $z: Nope) {f(i: $q) o {f(p: $z)}}", "Type 1:8; Type 1:18"},
		{"{f(i: $a p: {n: $b})}", "None 1:7 1:1; None 1:17 1:1"},
		{"query A ($a: Int) {...F} query B {...F} fragment F on Query {f(i: $a)}", "None 1:67 1:26"},
		{"query ($a: Int) {f(n: $a)}", "Place 1:8 1:23"},
		{"query ($a: Int = 1 $b: Int = null) {f(n: $a d: $b p: {n: $b})}", "Place 1:20 1:58"},
		{"query ($a: Int!) {f(i: $a n: $a l: $a)}", "Place 1:8 1:36"},
		{"query ($a: [Int!]) {f(l: $a m: $a)}", "Place 1:8 1:32"},
		{"query ($a: Int) @skip(if: $a) {f}", "Place 1:8 1:27"},
		{"fragment F on Query {f(i: $a)} query ($b: Int) {f}", "Unused 1:39"},
	})
}

// everything is a document with each kind of fault, some of them twice.
const everything = `query A ($a: Int $a: Root $b: [Nope!]! $c: Int = null $e: E) @d(i: $x) {f(n: $a i: $y p: {n: $c d: $c}) ...F}
	mutation B ($b: Int! $c: Boolean $c: U $g: S) {f(i: $b b: $c) ...F self {...G}}
	query C ($a: Int!, $b: Nope) {...G x @skip(if: $b)}
	fragment F on Root {f(n: $a l: [$c $a]) ...G}
	fragment G on Nope {nope(i: $e) ...F @include(if: $c)}
	fragment H on Root {f(i: $z)} fragment F on Root {f(i: $e)}`

// P20.1: all kinds together are sorted by kind, then by place.
func TestEverything(t *testing.T) {
	checkRows(t, zoo, []row{{
		everything,
		"Twice 1:10 1:18; Twice 2:23 2:35; Type 1:18; Type 1:27; Type 2:35; Type 3:21; " +
			"None 1:68 1:1; None 1:84 1:1; None 4:27 2:2; None 4:34 3:2; None 4:37 2:2; None 5:30 2:2; None 5:30 3:2; None 5:52 3:2; " +
			"Unused 1:27; Unused 2:41; " +
			"Place 1:10 1:78; Place 1:10 4:27; Place 1:40 1:94; Place 1:40 5:52; Place 2:23 4:34; Place 2:23 5:52",
	}})
}

// rightAll is a document in which all is right, at all places.
const rightAll = `query A ($i: Int $n: Int! $d: Int = 1 $l: [Int!] $m: [Int!]! $p: P $q: [P!]! $b: Boolean! $s: S $e: E! $k: [[Int!]!]! $id: ID! $w: Float!)
		@d(i: $n n: $i p: {n: $d d: $i i: $i x: $w id: $id}) {
		f(i: $i n: $n d: $i z: $n l: $l m: $m k: $k e: $e g: $e s: $s t: [] p: $p q: $q w: $w)
		self(b: $b id: $id) @skip(if: $b) {...F @d(i: $i) ... on Root @include(if: $b) {x}}
		g: f(n: $d l: [$i $n] m: [$n] k: [[$n] $m] q: [{n: 1 x: $w p: $p l: {n: $n x: 1 s: [$s]}}] t: [[$i]] s: {a: $q})
		nope(a: $m) {nope(i: $b)} x @nope(a: $k)}
	fragment F on Root @d(n: $n) {... @d(m: $l) {...G} i {... on Root {f(n: 1 m: $m i: $n)}}}
	fragment G on Nope {...F f(l: $q) x @d(p: $p)}
	mutation B ($i: Int! = 1 $b: Boolean) {f(i: $i b: $b) root {f(n: $i m: [])}}
	subscription C ($i: Int) {f(i: $i n: $i)}`

// P20.1: nothing is told where nothing is wrong, and none of what is wrong by other layers' rules.
func TestRight(t *testing.T) {
	checkRows(t, zoo, []row{{rightAll, ""}, {"{x}", ""}, {"fragment F on Root {f(i: $a)}", ""}, {"query ($a: Int) {x @skip(if: true) f(i: $a)}", ""}})
}

// P20.1: ErrVarTwice.
func TestNames(t *testing.T) {
	checkRows(t, zoo, []row{
		{"query ($a: Int $a: Int) {f(i: $a)}", "Twice 1:8 1:16"},
		{"query ($a: Int\n$a: Int,\n  $a: Int) {f(i: $a)}", "Twice 1:8 2:1 3:3"},
		{"query ($a: Int $b: Int $a: Int $b: Int $a: Int) {f(i: $a z: $b)}", "Twice 1:8 1:24 1:40; Twice 1:16 1:32"},
		// names count as they are written
		{"query ($a: Int $A: Int) {f(i: $a z: $A)}", ""},
		// each operation has its own
		{"query A ($a: Int) {f(i: $a)} query B ($a: Int) {f(i: $a)}", ""},
		{"query A ($a: Int) {f(i: $a)} query A ($a: Int $a: Int) {f(i: $a)} mutation ($a: Int! $a: Int) {f(i: $a)}", "Twice 1:39 1:47; Twice 1:77 1:86"},
		{"subscription ($a: Int $a: Int) {f(i: $a)} query ($a: Int) {f(i: $a)} {x}", "Twice 1:15 1:23"},
		// whatever their types, and whether they are used or not
		{"query ($a: Nope $a: [Int!]!) {x}", "Twice 1:8 1:17; Type 1:8; Unused 1:8; Unused 1:17"},
	})
}

// P20.1: ErrVarType.
func TestTypes(t *testing.T) {
	for _, c := range []struct {
		typ    string
		isOpen bool
	}{
		{"Int", false}, {"Float", false}, {"String", false}, {"Boolean", false}, {"ID", false}, {"E", false}, {"S", false}, {"P", false}, {"__TypeKind", false}, {"__DirectiveLocation", false},
		{"Root", true}, {"Change", true}, {"I", true}, {"U", true}, {"__Type", true}, {"__Schema", true}, {"Nope", true}, {"int", true}, {"d", true}, {"skip", true}, {"a", true}, {"A", true},
	} {
		for _, typ := range []string{c.typ, c.typ + "!", "[" + c.typ + "]", "[[" + c.typ + "!]]!"} {
			want := ""
			if c.isOpen {
				want = "Type 1:8"
			}
			checkRows(t, zoo, []row{{"query ($a: " + typ + ") {nope(i: $a)}", want}})
		}
	}
	checkRows(t, zoo, []row{
		{"query ($a: Root $b: Int $c: Nope) {nope(a: $a b: $b c: $c)} mutation ($a: U) {nope(a: $a)}", "Type 1:8; Type 1:25; Type 1:71"},
		{"query ($a: Root = 1 $a: I @d) {x}", "Twice 1:8 1:21; Type 1:8; Type 1:21; Unused 1:8; Unused 1:21"},
	})
}

// P20.1: ErrVarNone: all places at which a use may stand.
func TestDefined(t *testing.T) {
	checkRows(t, zoo, []row{
		{"{f(i: $a)}", "None 1:7 1:1"},
		{"query {f(i: $a)}", "None 1:13 1:1"},
		{"\n query A {f(i: $a)}", "None 2:16 2:2"},
		{"mutation {f(i: $a)}", "None 1:16 1:1"},
		{"subscription {f(i: $a)}", "None 1:20 1:1"},
		{"{f(k: [[$a]] p: {l: [{p: {n: $b}}]} s: {x: [$c]})}", "None 1:9 1:1; None 1:30 1:1; None 1:45 1:1"},
		{"query @d(i: $a) {x @d(p: {n: $b}) ... @d(i: $c) {...F @skip(if: $e)}} fragment F on Root @d(i: $f) {x}", "None 1:13 1:1; None 1:30 1:1; None 1:45 1:1; None 1:65 1:1; None 1:96 1:1"},
		// of what isn't known too
		{"{nope(i: $a) {nope(i: $b)} f(nope: $c) x @nope(i: $e) ...Nope @d(nope: $f) ... on Nope {f(i: $g)}}", "None 1:10 1:1; None 1:23 1:1; None 1:36 1:1; None 1:51 1:1; None 1:72 1:1; None 1:94 1:1"},
		// each use by itself
		{"{f(i: $a n: $a l: [$a $a])}", "None 1:7 1:1; None 1:13 1:1; None 1:20 1:1; None 1:23 1:1"},
		// names count as they are written
		{"query ($a: Int) {f(i: $a z: $A)}", "None 1:29 1:1"},
		// an operation's variables are its own
		{"query A ($a: Int) {f(i: $a)} query B {f(i: $a)} mutation C {f(i: $a)}", "None 1:44 1:30; None 1:66 1:49"},
		// a variable of a wrong type is one all the same
		{"query ($a: Nope) {f(i: $a)}", "Type 1:8"},
	})
}

// P20.1: which uses are an operation's.
func TestReach(t *testing.T) {
	checkRows(t, zoo, []row{
		{"{...F} fragment F on Root {f(i: $a)}", "None 1:33 1:1"},
		{"fragment F on Root {f(i: $a)} {...F}", "None 1:26 1:31"},
		{"{...F} fragment F on Root {...G} fragment G on Root {self {... {...H}}} fragment H on Root {f(i: $a)}", "None 1:98 1:1"},
		// each operation that reaches the use
		{"query A {...F} query B {...G} query C {x} fragment F on Root {...G} fragment G on Root {f(i: $a)}", "None 1:94 1:1; None 1:94 1:16"},
		{"query A ($a: Int) {...F} query B ($b: Int) {...F} query C ($a: Int) {f(i: $a)} fragment F on Root {f(i: $a z: $b)}", "None 1:105 1:26; None 1:111 1:1"},
		// two ways to one use
		{"{...F ...G ...F} fragment F on Root {...G} fragment G on Root {...H ...H} fragment H on Root {f(i: $a)}", "None 1:100 1:1"},
		// rings
		{"{...F} fragment F on Root {f(i: $a) ...F}", "None 1:33 1:1"},
		{"{...F}\nfragment F on Root {...G f(i: $a)}\nfragment G on Root {...H f(i: $b)}\nfragment H on Root {...F f(i: $c)}", "None 2:31 1:1; None 3:31 1:1; None 4:31 1:1"},
		{"query A {...G} query B ($a: Int $b: Int) {...F}\nfragment F on Root {...G f(i: $a)}\nfragment G on Root {...G f(i: $b)}", "None 3:31 1:1"},
		// none that no operation reaches
		{"{x} fragment F on Root {f(i: $a) ...G} fragment G on Root {f(i: $b) ...F}", ""},
		{"query ($a: Int) {x} fragment F on Root {f(i: $a)}", "Unused 1:8"},
		// what a spread means is the first fragment of the name, and no operation
		{"{...F} fragment F on Root {x} fragment F on Root {f(i: $a)}", ""},
		{"query ($b: Int) {...F} fragment F on Root {f(i: $a)} fragment F on Root {f(i: $b)}", "None 1:49 1:1; Unused 1:8"},
		{"query F {f(i: $a)} query G {...F}", "None 1:15 1:1"},
		{"query F ($a: Int) {f(i: $a)} query G {...F} fragment F on Root {f(i: $a)}", "None 1:70 1:30"},
		// a spread counts wherever it stands, and whatever the fragment's type
		{"{nope {...F}} fragment F on Nope {x {... on E {...G}}} fragment G on Int {nope(i: $a)}", "None 1:83 1:1"},
		{"query ($a: Int) {... on Change {...F}} fragment F on Feed {f(n: $a)}", ""},
	})
}

// P20.1: ErrVarUnused.
func TestUsed(t *testing.T) {
	checkRows(t, zoo, []row{
		{"query ($a: Int) {x}", "Unused 1:8"},
		{"query ($a: Int $b: Int\n$c: Int) {f(i: $b)}", "Unused 1:8; Unused 2:1"},
		// of each operation by itself
		{"query A ($a: Int) {x} query B ($a: Int) {f(i: $a)} mutation ($a: Int) {root {x}}", "Unused 1:10; Unused 1:62"},
		{"query A ($a: Int) {x} query B ($a: Int) {...F} fragment F on Root {f(i: $a)}", "Unused 1:10"},
		// all of one name
		{"query ($a: Int $a: Int) {x}", "Twice 1:8 1:16; Unused 1:8; Unused 1:16"},
		{"query ($a: Int $a: Int) {f(i: $a)}", "Twice 1:8 1:16"},
		// all places at which a use may stand
		{"query ($a: Int $b: Int! $c: Int $e: Boolean! $g: P) @d(i: $a) {x @d(p: {n: $b}) ... @d(i: $c) {...F @skip(if: $e)}} fragment F on Root @d(p: $g) {x}", ""},
		{"query ($a: Int $b: Int $c: Int $e: Int $g: Int) {nope(i: $a) {nope(i: $b)} f(nope: $c s: [$g]) x @nope(i: $e)}", ""},
		{"query ($a: Int) {...F} fragment F on Root {...G} fragment G on Root {f(k: [[$a]])}", "Place 1:8 1:77"},
		// what only looks like one
		{"query ($a: Int $b: Int) {a: f(i: 1 e: a s: \"$a\") b}", "Unused 1:8; Unused 1:16"},
		{"query ($a: Int) {...F} fragment F on Root {x} fragment F on Root {f(i: $a)}", "Unused 1:8"},
		{"query ($a: Int) {...a} fragment a on Root {x}", "Unused 1:8"},
	})
}

// P20.1: ErrVarPlace: types, defaults and places.
func TestPlaces(t *testing.T) {
	for _, c := range []struct {
		variable, arg string
		isWrong       bool
	}{
		{"Int", "i: $a", false}, {"Int!", "i: $a", false}, {"Float", "i: $a", true}, {"[Int]", "i: $a", true}, {"P", "i: $a", true}, {"E", "e: $a", false}, {"S", "s: $a", false}, {"Int", "s: $a", true}, {"Int", "w: $a", true}, {"String", "e: $a", true}, {"ID", "i: $a", true},
		{"Int", "n: $a", true}, {"Int!", "n: $a", false}, {"Int = 1", "n: $a", false}, {"Int = null", "n: $a", true}, {"Int! = null", "n: $a", false}, {"Int = A", "n: $a", false}, {"Int = {}", "n: $a", false}, {"Int = []", "n: $a", false}, {"Int = \"null\"", "n: $a", false}, {"Int = [null]", "n: $a", false},
		{"Int", "d: $a", false}, {"Int = null", "d: $a", false}, {"Float", "d: $a", true}, {"[Int]", "d: $a", true}, {"E", "g: $a", false}, {"Int", "z: $a", false},
		{"[Int]", "l: $a", false}, {"[Int!]!", "l: $a", false}, {"Int", "l: $a", true}, {"[[Int]]", "l: $a", true}, {"[Int!]", "m: $a", true}, {"[Int!] = []", "m: $a", false}, {"[Int] = []", "m: $a", true}, {"[Int]!", "m: $a", true},
		{"[[Int!]!]", "k: $a", false}, {"[[Int]!]", "k: $a", true}, {"[[Int!]]", "k: $a", true}, {"[[Int!]] = []", "k: $a", true},
		// within lists: the item's place has no default
		{"Int", "l: [$a]", false}, {"Int", "l: [1 null $a]", false}, {"Int", "m: [$a]", true}, {"Int!", "m: [$a]", false}, {"Int = 1", "m: [$a]", false}, {"[Int!]", "k: [$a]", true}, {"[Int!]!", "k: [$a]", false}, {"Int", "k: [[$a]]", true}, {"Int!", "k: [1 [$a]]", false}, {"[Int]", "l: [$a]", true},
		// within objects: the field's place has its own default
		{"Int", "p: {n: $a}", true}, {"Int!", "p: {n: $a}", false}, {"Int", "p: {d: $a}", false}, {"Int = 1", "p: {n: $a}", false}, {"Int", "p: {i: $a}", false}, {"Int", "p: {z: $a}", false}, {"[P!]", "p: {l: $a}", false}, {"[P]", "p: {l: $a}", true}, {"P", "p: {l: [$a]}", true}, {"P!", "p: {l: [$a]}", false}, {"P", "p: {p: $a}", false}, {"P", "p: {l: $a}", true},
		{"Int", "p: {p: {p: {n: $a}}}", true}, {"Int", "p: {l: [{p: {n: $a}}]}", true}, {"Int", "p: {l: {d: $a}}", false}, {"Int", "q: {n: $a}", true}, {"Int", "q: [{n: $a}]", true}, {"Int", "q: [{l: {l: {i: $a}}}]", false}, {"Int", "p: {k: $a}", true}, {"[[Int]!]", "p: {k: $a}", false}, {"[[Int]]", "p: {k: $a}", true}, {"[Int]", "p: {k: [$a]}", true}, {"Int", "p: {k: [[$a]]}", false}, {"[E!]!", "p: {e: $a}", false}, {"[E]", "p: {e: $a}", true}, {"E", "p: {e: [$a]}", true}, {"Float", "p: {x: $a}", true}, {"ID", "p: {id: $a}", false},
		// the argument's default doesn't count for what is within it
		{"Int", "k: [[$a]]", true}, {"P", "q: [$a]", true},
		// places that have no type
		{"P", "nope: $a", false}, {"P", "p: {nope: $a}", false}, {"P", "s: [$a]", false}, {"P", "s: {a: $a}", false}, {"P", "t: [{a: $a}]", false}, {"P", "i: [$a]", false}, {"P", "i: {n: $a}", false}, {"P", "l: [[$a]]", false}, {"P", "p: {s: [$a]}", false},
		// variables whose types are open
		{"Root", "n: $a", false}, {"Nope", "m: $a", false}, {"[I!]!", "p: $a", false},
	} {
		types := sound(t, zoo)
		for _, src := range []string{
			"query ($a: " + c.variable + ") {f(" + c.arg + ")}",
			"query ($a: " + c.variable + ") {x self(b: 1) {... {f(" + c.arg + ") ...F}}} fragment F on Root {x}",
			"query ($a: " + c.variable + ") {...G} fragment F on Root {f(" + c.arg + ")} fragment G on Root {... on Root {...F}}",
		} {
			want := []api.Pos{{Line: 1, Col: 8}, {Line: 1, Col: strings.LastIndex(src, "$a") + 1}}
			var got []api.Fault
			for _, f := range hold(t, src, types, parse(t, src)) {
				if f.Kind == api.ErrVarPlace {
					got = append(got, f)
				}
			}
			if (len(got) == 1) != c.isWrong || c.isWrong && told(got) != told([]api.Fault{{Kind: api.ErrVarPlace, Pos: want}}) {
				t.Errorf("%s: got %s", src, told(got))
			}
		}
	}
}

// P20.1: ErrVarPlace: which variable counts, and for which operations.
func TestPlacesOfOperations(t *testing.T) {
	checkRows(t, zoo, []row{
		{"query ($a: Int) {f(n: $a) self(b: $a id: $a) {x}}", "Place 1:8 1:23; Place 1:8 1:35; Place 1:8 1:42"},
		{"query ($a: Int $b: Int) {f(n: $b m: $a)}", "Place 1:8 1:37; Place 1:16 1:31"},
		// in a fragment for each operation that reaches it
		{"query A ($a: Int) {...F} query B ($a: Int!) {...F} query C ($a: E) {...F} query D {...F} query E ($a: Int) {x} fragment F on Root {f(n: $a)}", "None 1:137 1:75; Unused 1:99; Place 1:10 1:137; Place 1:61 1:137"},
		{"mutation ($a: Int) {f(i: $a) root {...F}} subscription ($a: Int) {f(i: $a n: $a) self {...F}} fragment F on Root {f(n: $a i: $a)}", "Place 1:11 1:26; Place 1:11 1:120; Place 1:57 1:120"},
		{"query ($a: Int) {x} fragment F on Root {f(n: $a)}", "Unused 1:8"},
		{"query ($a: Int) {...F} fragment F on Root {f(n: $a) ...G} fragment G on Root {f(m: $a) ...F}", "Place 1:8 1:49; Place 1:8 1:84"},
		// of several variables of one name the first
		{"query ($a: Int! $a: Int) {f(n: $a)}", "Twice 1:8 1:17"},
		{"query ($a: Int $a: Int!) {f(n: $a)}", "Twice 1:8 1:16; Place 1:8 1:32"},
		{"query ($a: Int = 1 $a: Int) {f(n: $a)}", "Twice 1:8 1:20"},
		{"query ($a: Int $a: Int = 1) {f(n: $a)}", "Twice 1:8 1:16; Place 1:8 1:35"},
		{"query ($a: Nope $a: Int) {f(n: $a)}", "Twice 1:8 1:17; Type 1:8"},
		{"query ($a: Int $a: Nope) {f(n: $a)}", "Twice 1:8 1:16; Type 1:16; Place 1:8 1:32"},
		// of directives, wherever they stand
		{"query ($a: Int) @d(m: $a) {x @skip(if: $a) ... @include(if: $a) {...F @d(p: $a)}} fragment F on Root @d(m: [$a] n: $a) {x}", "Place 1:8 1:23; Place 1:8 1:40; Place 1:8 1:61; Place 1:8 1:77; Place 1:8 1:109"},
		{"query ($a: Int) {nope @skip(if: $a) x @nope(if: $a) ...Nope @skip(if: $a)}", "Place 1:8 1:33; Place 1:8 1:71"},
		// of fields of introspection
		{"query ($a: Int $b: Boolean!) {__type(name: $a) {fields(includeDeprecated: $b) {name} x: fields(includeDeprecated: $a) {name}}}", "Place 1:8 1:44; Place 1:8 1:115"},
	})
}

// P20.1, R1: a nil sheet, a sheet of nothing, and a sheet that wasn't laid.
func TestNoSheet(t *testing.T) {
	for _, s := range []*scope.Sheet{nil, {}, scope.Lay(nil, api.Document{}), scope.Lay(sound(t, zoo), api.Document{})} {
		for _, r := range allCalls() {
			if got := r.call(s); len(got) != 0 {
				t.Error(r.name, told(got))
			}
		}
	}
}
