package typesys_test

import (
	"strings"
	"testing"

	"pergola/api"
)

const (
	schemaField = "__schema:__Schema!"
	typeField   = "__type(name:String!):__Type"
	nameField   = "__typename:String!"
)

// P12.5: the fields of types of each kind.
func TestFields(t *testing.T) {
	const src = `type Query{a:A b(x:Int=3@d "n"y:[I!]!):[Int]@e "m"a:String}
		extend type Query{c:Int a:ID b:ID d:Int} extend interface Query{e:Int}
		interface A{a:Int} extend interface A{b:Int a:String} type B{b:Int}
		union U=Query|B enum E{a} input N{a:Int b:Int} scalar S`
	s := build(t, src)
	for _, c := range []struct{ typ, field, want string }{
		{"Query", "a", "a:A"}, {"Query", "b", `b(x:Int=3@d "n"y:[I!]!):[Int]@e`}, {"Query", "c", "c:Int"}, {"Query", "d", "d:Int"}, {"Query", "e", ""}, {"Query", "", ""}, {"Query", "A", ""}, {"Query", "x", ""},
		{"A", "a", "a:Int"}, {"A", "b", "b:Int"}, {"A", "c", ""}, {"A", "", ""},
		{"B", "b", "b:Int"}, {"B", "a", ""},
		{"U", "a", ""}, {"U", "b", ""}, {"U", "", ""},
		{"E", "a", ""}, {"N", "a", ""}, {"N", "b", ""}, {"S", "a", ""}, {"Int", "a", ""}, {"Nope", "a", ""}, {"", "a", ""}, {"", "", ""},
		{"__Type", "kind", "kind:__TypeKind!"}, {"__Type", "enumValues", "enumValues(includeDeprecated:Boolean=false):[__EnumValue!]"}, {"__Type", "a", ""},
		{"__Schema", "types", "types:[__Type!]!"}, {"__TypeKind", "SCALAR", ""},
	} {
		wantField(t, s, c.typ, c.field, c.want)
	}
	got, _ := s.Field("Query", "d")
	alike(t, "a field's place", got.Pos, at(2, 37))
	got, _ = s.Field("Query", "a")
	alike(t, "the place of the first of two fields", got.Pos, at(1, 12))
}

// P12.5: __typename stands in objects, interfaces and unions, the built-in ones too, and in nothing else.
func TestTypename(t *testing.T) {
	s := build(t, "type Query type O interface I union U=O enum E{A} input N{a:Int} scalar S directive@d on ENUM")
	for _, name := range strings.Fields("Query O I U __Schema __Type __Field __InputValue __EnumValue __Directive") {
		wantField(t, s, name, "__typename", nameField)
		got, _ := s.Field(name, "__typename")
		alike(t, name, got, api.FieldDef{Name: "__typename", Type: ref("String", "!")})
	}
	for _, name := range strings.Fields("E N S d Int String Boolean Float ID __TypeKind __DirectiveLocation X skip") {
		wantField(t, s, name, "__typename", "")
	}
	wantField(t, s, "", "__typename", "")
}

// P12.5: __schema and __type are the query root's alone, and only where that is an object type.
func TestQueryRootsFields(t *testing.T) {
	for _, c := range []struct{ src, has, hasNot string }{
		{"type Query", "Query", "Mutation Int __Schema"},
		{"type Query type Mutation type Subscription", "Query", "Mutation Subscription"},
		{"type Mutation type Subscription", "", "Mutation Subscription Query"},
		{"interface Query{a:Int}", "", "Query"},
		{"schema{query:A mutation:B subscription:C query:B} type A type B type C type Query", "A", "B C Query"},
		{"schema{mutation:B} extend schema{query:A} type A type B", "A", "B"},
		{"schema{mutation:Query} type Query", "", "Query"},
		{"schema{query:I} interface I type A implements I", "", "I A"},
		{"schema{query:U} union U=A type A", "", "U A"},
		{"schema{query:E} enum E{A} type Query", "", "E Query"},
		{"schema{query:N} input N{a:Int} type Query", "", "N Query"},
		{"schema{query:S} scalar S", "", "S"},
		{"schema{query:X} type Query", "", "X Query"},
		{"schema{query:__Type} type Query", "__Type", "Query __Schema"},
		{"schema{query:Int}", "", "Int"},
		{"", "", "Query"},
	} {
		s := build(t, c.src)
		for _, name := range strings.Fields(c.has) {
			wantField(t, s, name, "__schema", schemaField)
			wantField(t, s, name, "__type", typeField)
			got, _ := s.Field(name, "__schema")
			alike(t, c.src, got, api.FieldDef{Name: "__schema", Type: ref("__Schema", "!")})
			got, _ = s.Field(name, "__type")
			alike(t, c.src, got, api.FieldDef{Name: "__type", Type: ref("__Type", ""), Args: []api.InputDef{{Name: "name", Type: ref("String", "!")}}})
		}
		for _, name := range append(strings.Fields(c.hasNot), "") {
			wantField(t, s, name, "__schema", "")
			wantField(t, s, name, "__type", "")
		}
	}
}

// P12.5: a type's own fields of such names come behind those that it has by itself, and count where it has none.
func TestFieldsOfTakenNames(t *testing.T) {
	const fields = "{__typename(x:Int):Int __schema:Int __type:Int __other:Int}"
	s := build(t, "type Query"+fields+"type A"+fields+"interface I"+fields)
	for _, name := range []string{"Query", "A", "I"} {
		wantField(t, s, name, "__typename", nameField)
		wantField(t, s, name, "__other", "__other:Int")
	}
	wantField(t, s, "Query", "__schema", schemaField)
	wantField(t, s, "Query", "__type", typeField)
	for _, name := range []string{"A", "I"} {
		wantField(t, s, name, "__schema", "__schema:Int")
		wantField(t, s, name, "__type", "__type:Int")
	}
}
