package scope_test

import (
	"strings"
	"testing"

	"pergola/api"
)

// wants has arguments of all kinds of types.
const wants = `
	type Query {f(
		int: Int intNN: Int! id: ID = 1 list: [Int] listNN: [[Int!]!]! = 1 enum: E enums: [E!] = [A]
		any: S anyNN: S! = 1 anys: [S] p: P pNN: P! ps: [P] = [] pss: [[P!]!]!
	): Query g: Int}
	enum E {A B} scalar S
	input P {int: Int intD: Int = null intNN: Int! = 3 any: S anys: [S!] = {} p: P pD: P = null ps: [P!] psD: [[P]!]! = [] enum: E}
	directive @d(int: Int p: P = {} any: S) repeatable on FIELD | QUERY | FRAGMENT_DEFINITION | FRAGMENT_SPREAD | INLINE_FRAGMENT | VARIABLE_DEFINITION`

// P16.2: the place of a variable in a literal of an argument: its type, and whether the place has a default.
func TestPlaces(t *testing.T) {
	for _, c := range []struct{ arg, want string }{
		// the argument itself
		{"int: $v", "Int typed"}, {"intNN: $v", "Int! typed"}, {"id: $v", "ID typed preset"}, {"list: $v", "[Int] typed"}, {"listNN: $v", "[[Int!]!]! typed preset"}, {"enum: $v", "E typed"}, {"any: $v", "S typed"}, {"anyNN: $v", "S! typed preset"}, {"p: $v", "P typed"}, {"pss: $v", "[[P!]!]! typed"}, {"nope: $v", "-"}, {"Int: $v", "-"},
		// the items of lists, at lists
		{"list: [$v]", "Int typed"}, {"list: [1 null [] $v]", "Int typed"}, {"listNN: [$v]", "[Int!]! typed"}, {"listNN: [[$v]]", "Int! typed"}, {"listNN: [1 [2 $v]]", "Int! typed"}, {"enums: [$v]", "E! typed"}, {"ps: [$v]", "P typed"}, {"pss: [$v]", "[P!]! typed"}, {"pss: [[$v]]", "P! typed"}, {"anys: [$v]", "S typed"},
		// lists where there is no list (any more)
		{"int: [$v]", "-"}, {"intNN: [$v]", "-"}, {"list: [[$v]]", "-"}, {"listNN: [[[$v]]]", "-"}, {"enum: [$v]", "-"}, {"p: [$v]", "-"}, {"pNN: [[$v]]", "-"}, {"ps: [[$v]]", "-"}, {"p: [{int: $v}]", "-"}, {"int: [[$v]]", "-"}, {"id: [$v]", "-"}, {"nope: [$v]", "-"},
		// a custom scalar: within it no place is typed
		{"any: [$v]", "-"}, {"any: {a: $v}", "-"}, {"any: {any: $v}", "-"}, {"anyNN: [[$v]]", "-"}, {"anys: [[$v]]", "-"}, {"anys: [{a: $v}]", "-"}, {"anys: {a: $v}", "-"}, {"anys: [{a: [$v]}]", "-"}, {"any: [{int: $v}]", "-"}, {"p: {any: [$v]}", "-"}, {"p: {anys: [[$v]]}", "-"},
		// fields of input types
		{"p: {int: $v}", "Int typed"}, {"p: {intD: $v}", "Int typed preset"}, {"p: {intNN: $v}", "Int! typed preset"}, {"p: {any: $v}", "S typed"}, {"p: {anys: $v}", "[S!] typed preset"}, {"p: {anys: [$v]}", "S! typed"}, {"p: {p: $v}", "P typed"}, {"p: {pD: $v}", "P typed preset"}, {"p: {ps: $v}", "[P!] typed"}, {"p: {psD: $v}", "[[P]!]! typed preset"}, {"p: {psD: [$v]}", "[P]! typed"}, {"p: {psD: [[$v]]}", "P typed"}, {"p: {enum: $v}", "E typed"},
		{"p: {nope: $v}", "-"}, {"p: {nope: {int: $v}}", "-"}, {"p: {nope: [$v]}", "-"}, {"pNN: {int: $v}", "Int typed"}, {"pNN: {intNN: $v}", "Int! typed preset"}, {"nope: {int: $v}", "-"}, {"int: {int: $v}", "-"}, {"enum: {int: $v}", "-"}, {"list: {int: $v}", "-"}, {"p: {int: {int: $v}}", "-"}, {"p: {int: [$v]}", "-"},
		// at any depth
		{"p: {p: {p: {pD: {int: $v}}}}", "Int typed"}, {"p: {p: {p: {pD: {pD: $v}}}}", "P typed preset"}, {"p: {p: {nope: {p: $v}}}", "-"}, {"p: {ps: [{psD: [[{ps: [$v]}]]}]}", "P! typed"}, {"p: {ps: [{psD: [[{ps: [{intNN: $v}]}]]}]}", "Int! typed preset"},
		// an object in the place of a list stands at the place of its item
		{"ps: {int: $v}", "Int typed"}, {"ps: {intD: $v}", "Int typed preset"}, {"pss: {int: $v}", "Int typed"}, {"pss: [{int: $v}]", "Int typed"}, {"pss: [[{int: $v}]]", "Int typed"}, {"pss: [[[{int: $v}]]]", "-"}, {"p: {psD: {ps: {int: $v}}}", "Int typed"}, {"p: {psD: [{ps: {pD: $v}}]}", "P typed preset"}, {"ps: {nope: $v}", "-"}, {"ps: {ps: {ps: $v}}", "[P!] typed"},
		// fields and arguments that stand twice are places each
		{"p: {int: 1 int: $v}", "Int typed"}, {"int: 1 int: $v", "Int typed"}, {"p: {p: {} p: {intD: $v}}", "Int typed preset"},
	} {
		uses := lay(t, wants, "{f("+c.arg+") {g}}").Uses()
		if len(uses) != 1 {
			t.Fatal(c.arg, uses)
		}
		u := uses[0]
		if got := typeText(u.Type) + flags("typed", u.Typed, "preset", u.HasDefault); got != c.want || u.Def != 0 || u.Name != "v" || u.Pos.Line != 1 || u.Pos.Col != strings.Index("{f("+c.arg, "$")+1 {
			t.Errorf("%s: got %s (%v), want %s", c.arg, got, u, c.want)
		}
	}
}

// P16.2: the arguments of what isn't known have no types, whatever their names.
func TestPlacesOfUnknown(t *testing.T) {
	for _, doc := range []string{
		"{nope(int: %)}", "{f {nope(int: %)}}", "{g(int: %)}", "{g {f(int: %)}}", "{nope {f(int: %)}}", "mutation {f(int: %)}", "{... on P {f(int: %)}}", "{... on Nope {f(int: %)}}", "fragment F on E {f(int: %)}",
		"{g @nope(int: %)}", "{g @f(int: %)}", "{g @d(x: %)}", "{g @d(pNN: %)}", "query @nope(int: %) {g}", "{...F @skip(unless: %)}", "{... @D(int: %) {g}}", "fragment F on Query @include(iff: %) {g}",
	} {
		for _, value := range []string{"$v", "[$v]", "{int: $v}", "[{int: [$v]}]"} {
			s := lay(t, wants, strings.ReplaceAll(doc, "%", value))
			uses, spots := s.Uses(), s.Spots()
			if len(uses) != 1 || uses[0].Typed || uses[0].HasDefault || uses[0].Type != (api.TypeRef{}) || uses[0].Name != "v" {
				t.Error(doc, value, uses)
			}
			if len(spots) != 1 || spots[0].Typed || spots[0].HasDefault || spots[0].Type != (api.TypeRef{}) {
				t.Error(doc, value, spots)
			}
		}
	}
}

// P16.2: a directive's arguments have the types of its definition, wherever it stands.
func TestPlacesOfDirectives(t *testing.T) {
	for _, doc := range []string{
		"{g %}", "{nope %}", "{f {nope {nope %}}}", "query %{g}", "mutation %{g}", "subscription %{g}", "fragment F on Query %{g}", "fragment F on Nope %{g}", "{...F %}", "{... % {g}}", "{... on Nope % {g}}", "{g @nope %}",
	} {
		s := lay(t, wants, strings.ReplaceAll(doc, "%", "@d(p: {intD: $v} int: $w any: [$x]) @skip(if: $y) @include(if: [$z])"))
		var uses, spots []string
		for _, u := range s.Uses() {
			uses = append(uses, u.Name+" "+typeText(u.Type)+flags("typed", u.Typed, "preset", u.HasDefault))
		}
		for _, p := range s.Spots() {
			spots = append(spots, typeText(p.Type)+flags("typed", p.Typed, "preset", p.HasDefault))
		}
		checkLines(t, "Uses of "+doc, uses, `
			v Int typed preset
			w Int typed
			x -
			y Boolean! typed
			z -
		`)
		checkLines(t, "Spots of "+doc, spots, `
			P typed preset
			Int typed
			S typed
			Boolean! typed
			Boolean! typed
		`)
	}
}

// P16.2: the fields that types have by themselves have arguments too.
func TestPlacesOfIntrospection(t *testing.T) {
	s := lay(t, wants, "{__type(name: $v) {fields(includeDeprecated: $w) {name(x: $x)}} __schema(name: $y) {types {enumValues(includeDeprecated: [$z])}} __typename(name: $n) f {__type(name: $m)}} fragment F on __Type {fields(includeDeprecated: $o)}")
	checkUses(t, s, `
		$v at 1:15: String! typed, def 0
		$w at 1:46: Boolean typed preset, def 0
		$x at 1:59: -, def 0
		$y at 1:80: -, def 0
		$z at 1:123: -, def 0
		$n at 1:147: -, def 0
		$m at 1:167: String! typed, def 0
		$o at 1:221: Boolean typed preset, def 1
	`)
}

// P16.2: the spots of arguments: the literal, whole, whatever it is, at the argument's type.
func TestSpots(t *testing.T) {
	checkSpots(t, lay(t, wants, `{f(int: "s" listNN: {a: [1]} pss: null nope: $v enums: 1.5 p: {int: {p: "x"}} id: true int: [2]) @d(any: A) {g(int: 1)}}`), `
		"s" at 1:9: Int typed, def 0
		{a: [1]} at 1:21: [[Int!]!]! typed preset, def 0
		null at 1:35: [[P!]!]! typed, def 0
		$v at 1:46: -, def 0
		1.5 at 1:56: [E!] typed preset, def 0
		{int: {p: "x"}} at 1:63: P typed, def 0
		true at 1:83: ID typed preset, def 0
		[2] at 1:93: Int typed, def 0
		A at 1:106: S typed, def 0
		1 at 1:117: -, def 0
	`)
}

// P16.2: the spots of variables' defaults: the variable's type, typed unless that is open; never with a default.
func TestSpotsOfDefaults(t *testing.T) {
	s := lay(t, wants, `query ($a: Int = 1 $b: [P!]! = {int: 2} $c: E $d: Query = 3 $e: [Nope!] = [4] $f: S! = null $a: ID = "x" $g: __TypeKind = LIST $h: d = 5) {g}
		query B ($a: [[E]] = A @d(int: 6)) {g}`)
	checkSpots(t, s, `
		1 at 1:18: Int typed, def 0
		{int: 2} at 1:32: [P!]! typed, def 0
		3 at 1:59: Query, def 0
		[4] at 1:75: [Nope!], def 0
		null at 1:88: S! typed, def 0
		"x" at 1:102: ID typed, def 0
		LIST at 1:123: __TypeKind typed, def 0
		5 at 1:136: d, def 0
		A at 2:24: [[E]] typed, def 1
		6 at 2:34: Int typed, def 1
	`)
	checkUses(t, s, "")
}

// P16.2: a variable is used wherever it stands, as often as it stands there, whether it is defined or not.
func TestUsesInOrder(t *testing.T) {
	checkUses(t, lay(t, wants, `query ($v: Int) {f(p: {p: {int: $b} int: $a} list: [$a $a $v]) @d(int: $c) {g @d(int: $v)}}
		fragment F on Query @d(int: $f) {f(int: $g) {g} ...G @d(int: $h)}`), `
		$b at 1:33: Int typed, def 0
		$a at 1:42: Int typed, def 0
		$a at 1:53: Int typed, def 0
		$a at 1:56: Int typed, def 0
		$v at 1:59: Int typed, def 0
		$c at 1:72: Int typed, def 0
		$v at 1:87: Int typed, def 0
		$f at 2:31: Int typed, def 1
		$g at 2:43: Int typed, def 1
		$h at 2:64: Int typed, def 1
	`)
}
