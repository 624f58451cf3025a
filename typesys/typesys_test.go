package typesys_test

import (
	"strconv"
	"strings"
	"testing"

	"pergola/api"
	"pergola/typesys"
)

// The chapter's examples.
func TestExamples(t *testing.T) {
	s := build(t, "extend type Query{b:Int} type Query{a:Int} type Query{c:Int} scalar Int extend union Query=Query")
	alike(t, "Names", told(s.Names()), "Query "+builtInTypes)
	wantType(t, s, "Query", "type Query{a:Int b:Int}")
	alike(t, "Schema", s.Schema(), api.SysDef{Kind: api.SysSchema, Roots: []api.RootDef{{Op: api.DefQuery, Type: "Query"}}})
	alike(t, "Directives", told(s.Directives()), "skip include deprecated specifiedBy")
	alike(t, "Root", build(t, "interface Query{a:Int}").Root(api.DefQuery), "")
	s = build(t, "schema{query:Q} extend schema{mutation:M query:R}")
	alike(t, "Root of queries", s.Root(api.DefQuery), "Q")
	alike(t, "Root of mutations", s.Root(api.DefMutation), "M")
	s = build(t, "interface I{a:Int} interface J implements I{a:Int} type A implements J&I{a:Int} type B implements J{a:Int} union U=B|A|X|B")
	alike(t, "Possible(I)", told(s.Possible("I")), "A")
	alike(t, "Possible(J)", told(s.Possible("J")), "A B")
	alike(t, "Possible(U)", told(s.Possible("U")), "B A")
	alike(t, "Meet(I, U)", s.Meet("I", "U"), true)
	alike(t, "Within(J, I)", s.Within("J", "I"), true)
	alike(t, "Within(B, I)", s.Within("B", "I"), false)
	alike(t, "Within(U, U)", s.Within("U", "U"), true)
	alike(t, "Within(X, X)", s.Within("X", "X"), false)
	alike(t, "Fits([A!]!, [J])", s.Fits(ref("A", "!]!"), ref("J", "]")), true)
	alike(t, "Fits([A], [J!])", s.Fits(ref("A", "]"), ref("J", "!]")), false)
	wantField(t, s, "U", "__typename", "__typename:String!")
	wantField(t, s, "U", "a", "")
}

// wantType holds a type against what one source says, but for places; of no source it isn't there.
func wantType(t *testing.T, s system, name, want string) {
	t.Helper()
	got, ok := s.Type(name)
	wantDef(t, "type "+name, got, ok, want)
}

func wantDirective(t *testing.T, s system, name, want string) {
	t.Helper()
	got, ok := s.Directive(name)
	wantDef(t, "directive "+name, got, ok, want)
}

func wantDef(t *testing.T, what string, got api.SysDef, ok bool, want string) {
	t.Helper()
	if want == "" {
		alike(t, what, got, api.SysDef{})
	} else {
		alike(t, what, unplaced(got), one(t, want))
	}
	alike(t, what+" is there", ok, want != "")
}

// wantField holds a field against what stands for it in a type, but for places; of no source it isn't there.
func wantField(t *testing.T, s system, typ, field, want string) {
	t.Helper()
	got, ok := s.Field(typ, field)
	what := "field " + field + " of " + typ
	if want == "" {
		alike(t, what, got, api.FieldDef{})
	} else {
		alike(t, what, unplaced(got), one(t, "type T{"+want+"}").Fields[0])
	}
	alike(t, what+" is there", ok, want != "")
}

// P12.1: of the definitions of one name the first counts, whatever kinds they are of.
func TestFirstCounts(t *testing.T) {
	kinds := []string{"scalar A@n", "type A@n", "interface A@n", "union A@n", "enum A@n", "input A@n"}
	for _, first := range kinds {
		for _, second := range kinds {
			one, two := strings.Replace(first, "@n", "@one", 1), strings.Replace(second, "@n", "@two", 1)
			s := build(t, "scalar Z "+one+" type B "+two+" "+one)
			wantType(t, s, "A", one)
			alike(t, one+" ahead of "+two, told(s.Names()), "Z A B "+builtInTypes)
		}
	}
}

// P12.1: a definition that bears a built-in type's name doesn't count, nor does an extension of it.
func TestBuiltInNamesAreTaken(t *testing.T) {
	none := build(t, "")
	for _, name := range strings.Fields(builtInTypes) {
		for _, kind := range []string{"scalar #@d", "type #@d{a:Int}", "interface #@d{a:Int}", "union #@d=A", "enum #@d{V}", "input #@d{a:Int}"} {
			src := strings.Replace(kind, "#", name, 1)
			for _, src := range []string{src, "extend " + src, "extend " + src + " " + src, src + " extend " + src} {
				s := build(t, src)
				got, ok := s.Type(name)
				want, _ := none.Type(name)
				alike(t, src, got, want)
				alike(t, src, ok, true)
				alike(t, src, told(s.Names()), builtInTypes)
			}
		}
	}
	for _, name := range strings.Fields(builtInDirectives) {
		s := build(t, "directive@"+name+"(x:Int)repeatable on QUERY directive@d on QUERY")
		got, ok := s.Directive(name)
		want, _ := none.Directive(name)
		alike(t, name, got, want)
		alike(t, name, ok, true)
		alike(t, name, told(s.Directives()), "d "+builtInDirectives)
	}
}

// P12.1: types' names are not directives' names.
func TestNamesOfTwoKinds(t *testing.T) {
	s := build(t, "directive@Int on FIELD directive@A on FIELD scalar skip scalar A type d directive@d on ENUM")
	alike(t, "Names", told(s.Names()), "skip A d "+builtInTypes)
	alike(t, "Directives", told(s.Directives()), "Int A d "+builtInDirectives)
	wantType(t, s, "skip", "scalar skip")
	wantType(t, s, "A", "scalar A")
	wantDirective(t, s, "Int", "directive@Int on FIELD")
	wantDirective(t, s, "A", "directive@A on FIELD")
	wantDirective(t, s, "String", "")
	wantType(t, s, "include", "")
	wantType(t, s, "schema", "")
	wantType(t, s, "", "")
	wantDirective(t, s, "", "")
}

// P12.1: which extensions count.
func TestExtensionsThatCount(t *testing.T) {
	for _, c := range []struct{ src, want string }{
		{"extend type A{b:Int}", ""},
		{"extend type A{b:Int} type A{a:Int}", "type A{a:Int b:Int}"},
		{"type A{a:Int} extend type A{b:Int}", "type A{a:Int b:Int}"},
		{"extend type A{b:Int} extend type A{c:Int} type A{a:Int} extend type A{d:Int}", "type A{a:Int b:Int c:Int d:Int}"},
		{"type A{a:Int} extend interface A{b:Int}", "type A{a:Int}"},
		{"interface A{a:Int} extend type A{b:Int}", "interface A{a:Int}"},
		{"type A{a:Int} extend input A{b:Int}", "type A{a:Int}"},
		{"input A{a:Int} extend type A{b:Int}", "input A{a:Int}"},
		{"type A{a:Int} extend union A=B", "type A{a:Int}"},
		{"type A{a:Int} extend enum A{B}", "type A{a:Int}"},
		{"type A{a:Int} extend scalar A@d", "type A{a:Int}"},
		{"type A{a:Int} extend schema@d", "type A{a:Int}"},
		{"type A{a:Int} interface A{b:Int} extend interface A{c:Int} extend type A{d:Int}", "type A{a:Int d:Int}"},
		{"type A{a:Int} type A{b:Int} extend type A{c:Int}", "type A{a:Int c:Int}"},
		{"type A{a:Int} extend type B{c:Int} type B extend type A{d:Int}", "type A{a:Int d:Int}"},
		{"directive@A on ENUM extend type A{b:Int}", ""},
		{"type A extend type A{a:Int a:String}extend type A{a:ID}", "type A{a:Int a:String a:ID}"},
	} {
		wantType(t, build(t, c.src), "A", c.want)
	}
}

// P12.2: each list that an extension may bring stands behind the definition's own.
func TestMergedLists(t *testing.T) {
	for _, c := range []struct{ src, want string }{
		{`"n" scalar A@a extend scalar A@b(x:1) @c extend scalar A@a`, `"n" scalar A@a@b(x:1)@c@a`},
		{`"n" type A implements I&J@a{a:Int} extend type A implements K&I extend type A@b @c extend type A{b(x:Int=1@d):Int@e} extend type A implements L@f{"m"c:Int}`,
			`"n" type A implements I&J&K&I&L@a@b@c@f{a:Int b(x:Int=1@d):Int@e "m"c:Int}`},
		{`"n" interface A implements I&J@a{a:Int} extend interface A implements K&I extend interface A@b @c extend interface A{b(x:Int=1@d):Int@e} extend interface A implements L@f{"m"c:Int}`,
			`"n" interface A implements I&J&K&I&L@a@b@c@f{a:Int b(x:Int=1@d):Int@e "m"c:Int}`},
		{`"n" union A@a=B|C extend union A=D|B extend union A@b extend union A@c=E`, `"n" union A@a@b@c=B|C|D|B|E`},
		{`"n" enum A@a{B C} extend enum A{"m"D@d B} extend enum A@b extend enum A@c{E}`, `"n" enum A@a@b@c{B C "m"D@d B E}`},
		{`"n" input A@a{a:Int b:Int=1} extend input A{"m"c:Int={d:[1]}@d a:Int} extend input A@b extend input A@c{e:Int!}`,
			`"n" input A@a@b@c{a:Int b:Int=1 "m"c:Int={d:[1]}@d a:Int e:Int!}`},
		{"type A extend type A implements I@d{a:Int}", "type A implements I@d{a:Int}"},
		{"union A extend union A@d=B", "union A@d=B"},
		{"enum A extend enum A@d{B}", "enum A@d{B}"},
		{"input A extend input A@d{a:Int}", "input A@d{a:Int}"},
	} {
		s := build(t, c.src)
		wantType(t, s, "A", c.want)
		alike(t, c.src, told(s.Names()), "A "+builtInTypes)
	}
}

// P12.2: all else is the definition's own, its place too; what is merged bears the places that it had.
func TestMergedKeepsPlaces(t *testing.T) {
	s := build(t, "extend type A implements I@d{b:Int}\n\"\"\"n\"\"\" type A implements J@e{a(x:Int@f):Int}\nextend type A{c:Int}")
	got, ok := s.Type("A")
	alike(t, "A is there", ok, true)
	alike(t, "A", got, api.SysDef{
		Kind: api.SysObject, Note: api.Note{Has: true, Block: true, Text: "n"}, Name: "A", Pos: at(2, 14),
		Ifaces: []api.Named{{Name: "J", Pos: at(2, 27)}, {Name: "I", Pos: at(1, 26)}},
		Dirs:   []api.Dir{{Name: "e", Pos: at(2, 28)}, {Name: "d", Pos: at(1, 27)}},
		Fields: []api.FieldDef{
			{Name: "a", Type: ref("Int", ""), Pos: at(2, 31), Args: []api.InputDef{{Name: "x", Type: ref("Int", ""), Pos: at(2, 33), Dirs: []api.Dir{{Name: "f", Pos: at(2, 38)}}}}},
			{Name: "b", Type: ref("Int", ""), Pos: at(1, 30)},
			{Name: "c", Type: ref("Int", ""), Pos: at(3, 15)},
		},
	})
}

// P12.2: the first directive's definition of a name counts, with all its parts.
func TestDirectives(t *testing.T) {
	s := build(t, `directive@e on ENUM "n" directive@d("m"x:[Int!]=[1 2]@a y:Int)repeatable on FIELD|QUERY directive@d on SCALAR directive@e(x:Int)on FIELD`)
	wantDirective(t, s, "d", `"n" directive@d("m"x:[Int!]=[1 2]@a y:Int)repeatable on FIELD|QUERY`)
	wantDirective(t, s, "e", "directive@e on ENUM")
	wantDirective(t, s, "f", "")
	alike(t, "Directives", told(s.Directives()), "e d "+builtInDirectives)
	got, _ := s.Directive("d")
	alike(t, "its place", got.Pos, at(1, 35))
	alike(t, "its places", got.Places, []api.Named{{Name: "FIELD", Pos: at(1, 77)}, {Name: "QUERY", Pos: at(1, 83)}})
}

// P12.3: the names in the order of the definitions that count, the built-in ones behind them.
func TestNames(t *testing.T) {
	s := build(t, "extend type E{a:Int} enum D scalar String input C{a:Int} directive@z on ENUM union B union D type A interface E scalar F schema{query:A} enum A directive@y on ENUM directive@z on FIELD extend type G@d")
	alike(t, "Names", told(s.Names()), "D C B A E F "+builtInTypes)
	alike(t, "Directives", told(s.Directives()), "z y "+builtInDirectives)
}

// P12.4: the schema's definition, its extensions, and what stands in its place.
func TestSchema(t *testing.T) {
	for _, c := range []struct{ src, want, roots string }{
		{"schema{query:Q}", "schema{query:Q}", "Q  "},
		{`"n" schema@a{query:Q}`, `"n" schema@a{query:Q}`, "Q  "},
		{"schema{subscription:S mutation:M}", "schema{subscription:S mutation:M}", " M S"},
		{"schema{query:A query:B}", "schema{query:A query:B}", "A  "},
		{"schema{query:A} schema{query:B mutation:M}", "schema{query:A}", "A  "},
		{"schema@a{mutation:M} type Query extend schema@b @c extend schema{query:Q}", "schema@a@b@c{mutation:M query:Q}", "Q M "},
		{"extend schema@b{query:B mutation:N} schema@a{query:A} extend schema@c{subscription:S query:C}", "schema@a@b@c{query:A query:B mutation:N subscription:S query:C}", "A N S"},
		{"schema{query:A} schema@z{query:B} extend schema{mutation:M}", "schema{query:A mutation:M}", "A M "},
		{"schema{mutation:M} type Query type Mutation type Subscription", "schema{mutation:M}", " M "},
		{"schema{query:Int}", "schema{query:Int}", "Int  "},
		{"schema{query:Nope} type A", "schema{query:Nope}", "Nope  "},
	} {
		s := build(t, c.src)
		alike(t, c.src, unplaced(s.Schema()), one(t, c.want))
		alike(t, c.src, roots(s), c.roots)
	}
	got := build(t, "extend schema@b{query:B}\n schema@a{query:A}").Schema()
	alike(t, "the schema's place", got.Pos, at(2, 2))
	alike(t, "the roots' places", got.Roots, []api.RootDef{{Op: api.DefQuery, Type: "A", Pos: at(2, 11)}, {Op: api.DefQuery, Type: "B", Pos: at(1, 17)}})
}

func roots(s system) string {
	return s.Root(api.DefQuery) + " " + s.Root(api.DefMutation) + " " + s.Root(api.DefSubscription)
}

// P12.4: without a schema's definition the roots are by their names, of object types alone.
func TestSchemaByNames(t *testing.T) {
	names := []string{"Query", "Mutation", "Subscription"}
	for _, c := range []struct{ src, roots string }{
		{"", "  "},
		{"type A", "  "},
		{"type Query", "Query  "},
		{"type Mutation", " Mutation "},
		{"type Subscription", "  Subscription"},
		{"type Subscription type Mutation type Query", "Query Mutation Subscription"},
		{"interface Query type Mutation", " Mutation "},
		{"scalar Query union Mutation enum Subscription", "  "},
		{"input Query interface Mutation scalar Subscription", "  "},
		{"interface Query type Query", "  "},
		{"type Query interface Query", "Query  "},
		{"extend type Query{a:Int}", "  "},
		{"extend schema{query:Q}", "  "},
		{"extend schema{query:Q}extend schema@d type Query", "Query  "},
		{"type query type QUERY type Quer type Queryy", "  "},
		{"directive@Query on ENUM", "  "},
	} {
		s := build(t, c.src)
		want := api.SysDef{Kind: api.SysSchema}
		for i, name := range names {
			if strings.Split(c.roots, " ")[i] == name {
				want.Roots = append(want.Roots, api.RootDef{Op: api.DefKind(i + 1), Type: name})
			}
		}
		alike(t, c.src, s.Schema(), want)
		alike(t, c.src, roots(s), c.roots)
	}
}

// P12.4: operations that are none have no root.
func TestRootOfNone(t *testing.T) {
	for _, src := range []string{"", "schema{query:A mutation:B subscription:C}", "type Query type Mutation type Subscription"} {
		for _, op := range []api.DefKind{0, 4, 5, -1, 1 << 40, -1 << 63} {
			alike(t, src, build(t, src).Root(op), "")
		}
	}
}

// P12.10: what may go in and what may come out.
func TestInAndOut(t *testing.T) {
	s := build(t, "scalar S type O interface I union U enum E input N directive@d on ENUM extend type X@d")
	for name, want := range map[string][2]bool{
		"S": {true, true}, "O": {false, true}, "I": {false, true}, "U": {false, true}, "E": {true, true}, "N": {true, false},
		"d": {}, "X": {}, "": {}, "skip": {}, "s": {},
		"Int": {true, true}, "Float": {true, true}, "String": {true, true}, "Boolean": {true, true}, "ID": {true, true}, "__TypeKind": {true, true}, "__DirectiveLocation": {true, true},
		"__Schema": {false, true}, "__Type": {false, true}, "__Field": {false, true}, "__InputValue": {false, true}, "__EnumValue": {false, true}, "__Directive": {false, true},
	} {
		alike(t, name, [2]bool{s.Input(name), s.Output(name)}, want)
	}
}

// All built-in definitions, each part, as the chapter writes them; no place and no note stands in them.
func TestBuiltInDefinitions(t *testing.T) {
	for _, src := range []string{"", "type Query{a:Int}", "schema{query:__Type} scalar Int extend scalar Int@d extend type __Type{x:Int}"} {
		s := build(t, src)
		for _, want := range given().builtIn {
			find := s.Type
			if want.Kind == api.SysDirective {
				find = s.Directive
			}
			got, ok := find(want.Name)
			alike(t, want.Name, got, want)
			alike(t, want.Name, ok, true)
		}
	}
	none := build(t, "")
	alike(t, "built-in types", told(none.Names()), builtInTypes)
	alike(t, "built-in directives", told(none.Directives()), builtInDirectives)
	fields, _ := none.Field("__Type", "fields")
	alike(t, "a built-in default", fields.Args[0].Default, api.Lit{Kind: api.LitBool, Text: "false"})
	deprecated, _ := none.Directive("deprecated")
	alike(t, "a built-in default", deprecated.Inputs[0].Default, api.Lit{Kind: api.LitString, Text: "No longer supported"})
	for i, name := range strings.Fields(builtInTypes) {
		if def, _ := none.Type(name); i < 5 {
			alike(t, name, def, api.SysDef{Kind: api.SysScalar, Name: name})
		}
	}
}

// A nil type system, and one that Build hasn't made, answer as that of no definitions does.
func TestNil(t *testing.T) {
	var none *typesys.Types
	names := append(strings.Fields(builtInTypes+" "+builtInDirectives), "", "Query", "A", "fields", "name", "__typename", "__schema", "__type")
	want := newModel(t, "")
	for i, s := range []*typesys.Types{none, {}, typesys.Build(nil), typesys.Build([]api.SysDef{})} {
		hold(t, "system "+strconv.Itoa(i), s, want, names)
	}
}
