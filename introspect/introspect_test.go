package introspect_test

import (
	"slices"
	"strings"
	"testing"

	"pergola/api"
	"pergola/introspect"
	"pergola/typesys"
)

// The chapter's examples.
func TestChapter(t *testing.T) {
	s := sound(t, `"Q" type Query{a(x:[Int!]=[1]):Int! @deprecated b:U} union U=Query enum E{A B @deprecated(reason:null)}`)
	for _, r := range []struct {
		field string
		args  []api.Member
		want  string
	}{
		{"__schema", nil, "__Schema:"}, {"__type", arg("name", text("Nope")), "null"}, {"a", nil, nothing},
	} {
		if got := told(introspect.Root(s, r.field, r.args)); got != r.want {
			t.Errorf("Root %s: got %s, want %s", r.field, got, r.want)
		}
	}
	checkRows(t, s, "the examples", slices.Concat(
		of("__Type:Query", "description", "'Q'", "fields", "[__Field:Query.b]", "fields+", "[__Field:Query.a __Field:Query.b]", "inputFields", "null", "nope", nothing),
		of("__Field:Query.a", "type", "__Type:Int!", "deprecationReason", "'No longer supported'", "args", "[__InputValue:Query.a(x)]"),
		of("__InputValue:Query.a(x)", "type", "__Type:[Int!]"),
		of("__Type:[Int!]", "ofType", "__Type:Int!", "kind", "'LIST'", "name", "null"),
		of("__Type:Int!!", "kind", nothing),
		of("__Type:Int!", "ofType", "__Type:Int"),
		of("__Type:E", "enumValues", "[__EnumValue:E.A]"),
		of("__EnumValue:E.B", "deprecationReason", "null", "isDeprecated", "true"),
		of("__Type:U", "possibleTypes", "[__Type:Query]", "fields", "null"),
		of("__Directive:@skip", "locations", "['FIELD' 'FRAGMENT_SPREAD' 'INLINE_FRAGMENT']"),
		of("__InputValue:@skip(if)", "defaultValue", "null"),
		of("__InputValue:__Type.fields(includeDeprecated)", "defaultValue", "'false'"),
	))
}

// P15.1: Root's two fields, whatever else is asked.
func TestRoot(t *testing.T) {
	s := sound(t, "type Query{a:Int} type name{name:Int} enum E{A} directive@d on FIELD")
	other := api.Member{Name: "other", Value: text("E")}
	for _, r := range []struct {
		field string
		args  []api.Member
		want  string
	}{
		{"__schema", nil, "__Schema:"},
		{"__schema", arg("name", text("E")), "__Schema:"},
		{"__type", arg("name", text("E")), "__Type:E"},
		{"__type", arg("name", text("name")), "__Type:name"},
		{"__type", arg("name", text("Int")), "__Type:Int"},
		{"__type", arg("name", text("__Type")), "__Type:__Type"},
		{"__type", arg("name", text("__DirectiveLocation")), "__Type:__DirectiveLocation"},
		// Arguments of other names are passed over; of two of one name the first counts.
		{"__type", []api.Member{other, {Name: "name", Value: text("Query")}, other}, "__Type:Query"},
		{"__type", []api.Member{{Name: "name", Value: text("Nope")}, {Name: "name", Value: text("E")}}, "null"},
		{"__type", []api.Member{{Name: "name"}, {Name: "name", Value: text("E")}}, "null"},
		{"__type", []api.Member{{Name: "name", Value: text("E")}, {Name: "name", Value: text("Nope")}}, "__Type:E"},
		{"__type", []api.Member{{Name: "Name", Value: text("E")}}, "null"},
		{"__type", []api.Member{other}, "null"},
		{"__type", nil, "null"},
		{"__type", []api.Member{}, "null"},
		// No types: references, parts, directives, other spellings.
		{"__type", arg("name", text("[E]")), "null"},
		{"__type", arg("name", text("E!")), "null"},
		{"__type", arg("name", text("E.A")), "null"},
		{"__type", arg("name", text("e")), "null"},
		{"__type", arg("name", text(" E")), "null"},
		{"__type", arg("name", text("")), "null"},
		{"__type", arg("name", text("d")), "null"},
		{"__type", arg("name", text("@d")), "null"},
		{"__type", arg("name", text("\xff")), "null"},
		{"__type", arg("name", text("__schema")), "null"},
		// The name must be a string, whatever stands in the fields that don't count.
		{"__type", arg("name", api.Value{Text: "E"}), "null"},
		{"__type", arg("name", api.Value{Kind: api.KindBool, Text: "E"}), "null"},
		{"__type", arg("name", api.Value{Kind: api.KindInt, Text: "E"}), "null"},
		{"__type", arg("name", api.Value{Kind: api.KindFloat, Text: "E"}), "null"},
		{"__type", arg("name", api.Value{Kind: api.KindList, Text: "E", Items: []api.Value{text("E")}}), "null"},
		{"__type", arg("name", api.Value{Kind: api.KindObject, Text: "E", Fields: arg("name", text("E"))}), "null"},
		{"__type", arg("name", handle("__Type", "E")), "null"},
		{"__type", arg("name", api.Value{Kind: 8, Text: "E"}), "null"},
		{"__type", arg("name", api.Value{Kind: -1, Text: "E"}), "null"},
		{"__type", arg("name", api.Value{Kind: api.KindString, Text: "E", Bool: true, Int: 7, Float: 1, Type: "__Type", Items: make([]api.Value, 1), Fields: make([]api.Member, 1)}), "__Type:E"},
		// All other fields.
		{"", nil, nothing}, {"a", nil, nothing}, {"__typename", nil, nothing}, {"__Schema", nil, nothing}, {"__schema ", nil, nothing}, {"schema", nil, nothing},
		{"type", arg("name", text("E")), nothing}, {"__types", arg("name", text("E")), nothing}, {"name", arg("name", text("E")), nothing}, {"types", nil, nothing}, {"\xff", nil, nothing},
	} {
		if got := told(introspect.Root(s, r.field, r.args)); got != r.want {
			t.Errorf("P15.1: %s of %v: got %s, want %s", r.field, r.args, got, r.want)
		}
	}
}

const (
	builtInTypes      = "Int Float String Boolean ID __Schema __Type __TypeKind __Field __InputValue __EnumValue __Directive __DirectiveLocation"
	builtInDirectives = "skip include deprecated specifiedBy"
)

// handles is a list of handles, told, of a type and names with a text ahead of each.
func handles(typ, ahead, names string) string {
	list := strings.Fields(names)
	for i, name := range list {
		list[i] = typ + ":" + ahead + name
	}
	return "[" + strings.Join(list, " ") + "]"
}

// P15.2: the schema's fields.
func TestSchema(t *testing.T) {
	const schema = "__Schema:"
	checkRows(t, sound(t, `type Query{a:Int}`), "P15.2", of(schema,
		"description", "null",
		"types", handles("__Type", "", "Query "+builtInTypes),
		"queryType", "__Type:Query", "mutationType", "null", "subscriptionType", "null",
		"directives", handles("__Directive", "@", builtInDirectives)))
	checkRows(t, sound(t, `scalar Z type Mutation{a:Int} directive@z on FIELD enum A{A} type Subscription{a:Int} directive@a on FIELD type Query{a:Int} extend enum A{B} union U=Query input I{a:Int} interface J{a:Int}`), "P15.2", of(schema,
		"description", "null",
		"types", handles("__Type", "", "Z Mutation A Subscription Query U I J "+builtInTypes),
		"queryType", "__Type:Query", "mutationType", "__Type:Mutation", "subscriptionType", "__Type:Subscription",
		"directives", handles("__Directive", "@", "z a "+builtInDirectives)))
	checkRows(t, sound(t, `"s" schema{query:Q} extend schema{subscription:S} type Query{a:Int} type Mutation{a:Int} type Q{a:Int} type S{a:Int}`), "P15.2", of(schema,
		"description", "'s'", "queryType", "__Type:Q", "mutationType", "null", "subscriptionType", "__Type:S"))
	checkRows(t, sound(t, `schema{mutation:M query:Q} type M{a:Int} type Q{a:Int}`), "P15.2", of(schema,
		"description", "null", "queryType", "__Type:Q", "mutationType", "__Type:M", "subscriptionType", "null"))
}

// A root that names no type is null: such a type system isn't sound, but this much is plain.
func TestRootsThatAreNone(t *testing.T) {
	s := typesys.Build(read(t, "schema{query:X mutation:M} type M{a:Int}"))
	checkRows(t, s, "P15.2", of("__Schema:", "queryType", "null", "mutationType", "__Type:M", "subscriptionType", "null"))
	checkRows(t, nil, "P15.2", of("__Schema:", "queryType", "null", "types", handles("__Type", "", builtInTypes)))
}

const kinds = `type Query implements I&J{a:Int b:Int c:U}
interface I implements J{a:Int b:Int} interface J{b:Int} type B implements J{b:Int}
union U=Query|B enum E{A B C} scalar S scalar T@specifiedBy(url:"u") input P{y:Int x:E z:P}
extend type B implements I&K{a:Int k:Int} interface K{k:Int} extend union U=Z type Z{z:Int} extend enum E{D} extend input P{w:Int} extend scalar S@specifiedBy(url:"""
  v
""")`

// P15.3: every field of a type of each kind, extensions' parts too.
func TestTypesOfEachKind(t *testing.T) {
	s := sound(t, kinds)
	columns := []string{"kind", "name", "description", "specifiedByURL", "fields", "interfaces", "possibleTypes", "enumValues", "inputFields", "ofType"}
	if !slices.Equal(columns, fieldsOf(t, "__Type")) {
		t.Fatal("fields of __Type:", fieldsOf(t, "__Type"))
	}
	for _, r := range [][]string{
		{"'OBJECT'", "'Query'", "null", "null", handles("__Field", "Query.", "a b c"), handles("__Type", "", "I J"), "null", "null", "null", "null"},
		{"'OBJECT'", "'B'", "null", "null", handles("__Field", "B.", "b a k"), handles("__Type", "", "J I K"), "null", "null", "null", "null"},
		{"'OBJECT'", "'Z'", "null", "null", handles("__Field", "Z.", "z"), "[]", "null", "null", "null", "null"},
		{"'INTERFACE'", "'I'", "null", "null", handles("__Field", "I.", "a b"), handles("__Type", "", "J"), handles("__Type", "", "Query B"), "null", "null", "null"},
		{"'INTERFACE'", "'J'", "null", "null", handles("__Field", "J.", "b"), "[]", handles("__Type", "", "Query B"), "null", "null", "null"},
		{"'INTERFACE'", "'K'", "null", "null", handles("__Field", "K.", "k"), "[]", handles("__Type", "", "B"), "null", "null", "null"},
		{"'UNION'", "'U'", "null", "null", "null", "null", handles("__Type", "", "Query B Z"), "null", "null", "null"},
		{"'ENUM'", "'E'", "null", "null", "null", "null", "null", handles("__EnumValue", "E.", "A B C D"), "null", "null"},
		{"'INPUT_OBJECT'", "'P'", "null", "null", "null", "null", "null", "null", handles("__InputValue", "P.", "y x z w"), "null"},
		{"'SCALAR'", "'S'", "null", "'v'", "null", "null", "null", "null", "null", "null"},
		{"'SCALAR'", "'T'", "null", "'u'", "null", "null", "null", "null", "null", "null"},
		{"'SCALAR'", "'Int'", "null", "null", "null", "null", "null", "null", "null", "null"},
		{"'SCALAR'", "'ID'", "null", "null", "null", "null", "null", "null", "null", "null"},
		{"'OBJECT'", "'__EnumValue'", "null", "null", handles("__Field", "__EnumValue.", "name description isDeprecated deprecationReason"), "[]", "null", "null", "null", "null"},
		{"'ENUM'", "'__TypeKind'", "null", "null", "null", "null", "null", handles("__EnumValue", "__TypeKind.", "SCALAR OBJECT INTERFACE UNION ENUM INPUT_OBJECT LIST NON_NULL"), "null", "null"},
	} {
		for i, column := range columns {
			checkRows(t, s, "P15.3", []row{{"__Type:" + strings.Trim(r[1], "'"), column, r[i]}})
		}
	}
}

// P15.3: an interface that nobody implements stands for no object.
func TestNoPossibleTypes(t *testing.T) {
	s := sound(t, "type Query{a:Int} interface I{a:Int} interface J implements I{a:Int}")
	checkRows(t, s, "P15.3", of("__Type:I", "possibleTypes", "[]", "interfaces", "[]", "fields", "[__Field:I.a]"))
	checkRows(t, s, "P15.3", of("__Type:J", "possibleTypes", "[]", "interfaces", "[__Type:I]"))
}

// P15.3: a scalar's url alone counts, of the directive specifiedBy alone.
func TestSpecifiedBy(t *testing.T) {
	s := sound(t, `type Query{a:Int} directive@d(url:String)repeatable on SCALAR|ENUM directive@e(specifiedBy:String)on SCALAR
		scalar A@d(url:"no") scalar B@d(url:"no")@specifiedBy(url:"")@d(url:"no") scalar C@e(specifiedBy:"no") enum E@d(url:"no"){A} scalar D@specifiedBy(url:"\n\u0041\"")`)
	checkRows(t, s, "P15.3", slices.Concat(of("__Type:A", "specifiedByURL", "null"), of("__Type:B", "specifiedByURL", "''"), of("__Type:C", "specifiedByURL", "null"),
		of("__Type:E", "specifiedByURL", "null"), of("__Type:D", "specifiedByURL", "'\nA\"'"), of("__Type:D!", "specifiedByURL", "null"), of("__Type:[D]", "specifiedByURL", "null")))
}

// P15.3: a reference with a wrap has a kind and an inner type, and nothing else.
func TestWrapped(t *testing.T) {
	s := sound(t, kinds)
	for _, name := range []string{"Query", "I", "U", "E", "P", "T", "Int", "__Type"} {
		for _, r := range [][3]string{
			{"#!", "NON_NULL", "#"}, {"[#]", "LIST", "#"}, {"[#!]", "LIST", "#!"}, {"[#]!", "NON_NULL", "[#]"}, {"[#!]!", "NON_NULL", "[#!]"},
			{"[[#]]", "LIST", "[#]"}, {"[[#!]!]!", "NON_NULL", "[[#!]!]"}, {"[[#!]]!", "NON_NULL", "[[#!]]"}, {"[[[#]!]]", "LIST", "[[#]!]"},
		} {
			for i := range r {
				r[i] = strings.ReplaceAll(r[i], "#", name)
			}
			for _, field := range fieldsOf(t, "__Type") {
				want := "null"
				switch field {
				case "kind":
					want = "'" + r[1] + "'"
				case "ofType":
					want = "__Type:" + r[2]
				}
				checkRows(t, s, "P15.3", of("__Type:"+r[0], field, want, field+"+", want))
			}
			checkRows(t, s, "P15.9", of("__Type:"+r[0], "nope", nothing, "__typename", nothing, "args", nothing, "", nothing))
		}
	}
}

// P15.4: a field's own fields.
func TestFields(t *testing.T) {
	s := sound(t, `type Query implements I{"n" a(z:Int "m" y:[E!]!=[A] x:P):[[U!]]! b:Int @deprecated(reason:"r") } interface I{b:Int} union U=Query enum E{A} input P{a:Int} extend type Query{c(c:Int):Query}`)
	checkRows(t, s, "P15.4", slices.Concat(
		of("__Field:Query.a", "name", "'a'", "description", "'n'", "args", handles("__InputValue", "Query.", "a(z) a(y) a(x)"), "type", "__Type:[[U!]]!", "isDeprecated", "false", "deprecationReason", "null"),
		of("__Field:Query.b", "name", "'b'", "description", "null", "args", "[]", "type", "__Type:Int", "isDeprecated", "true", "deprecationReason", "'r'"),
		of("__Field:Query.c", "name", "'c'", "description", "null", "args", "[__InputValue:Query.c(c)]", "type", "__Type:Query", "isDeprecated", "false", "deprecationReason", "null"),
		of("__Field:I.b", "name", "'b'", "description", "null", "args", "[]", "type", "__Type:Int", "isDeprecated", "false", "deprecationReason", "null"),
		of("__Field:__Schema.types", "name", "'types'", "description", "null", "args", "[]", "type", "__Type:[__Type!]!", "isDeprecated", "false", "deprecationReason", "null"),
		of("__Field:__Type.fields", "name", "'fields'", "args", "[__InputValue:__Type.fields(includeDeprecated)]", "type", "__Type:[__Field!]"),
		of("__Field:__Directive.isRepeatable", "name", "'isRepeatable'", "args", "[]", "type", "__Type:Boolean!"),
	))
}

// P15.5: arguments of fields and of directives, and input fields.
func TestInputValues(t *testing.T) {
	s := sound(t, `type Query{a("n" x:[Int!]! y:P={}):Int} input P{"" x:[[S!]]! = [] y:P} scalar S directive@d("o" x:Int=3 a:String)on FIELD extend input P{z:Int=1}`)
	checkRows(t, s, "P15.5", slices.Concat(
		of("__InputValue:Query.a(x)", "name", "'x'", "description", "'n'", "type", "__Type:[Int!]!", "defaultValue", "null"),
		of("__InputValue:Query.a(y)", "name", "'y'", "description", "null", "type", "__Type:P", "defaultValue", "'{}'"),
		of("__InputValue:P.x", "name", "'x'", "description", "''", "type", "__Type:[[S!]]!", "defaultValue", "'[]'"),
		of("__InputValue:P.y", "name", "'y'", "description", "null", "type", "__Type:P", "defaultValue", "null"),
		of("__InputValue:P.z", "name", "'z'", "description", "null", "type", "__Type:Int", "defaultValue", "'1'"),
		of("__InputValue:@d(x)", "name", "'x'", "description", "'o'", "type", "__Type:Int", "defaultValue", "'3'"),
		of("__InputValue:@d(a)", "name", "'a'", "description", "null", "type", "__Type:String", "defaultValue", "null"),
		of("__InputValue:@deprecated(reason)", "name", "'reason'", "description", "null", "type", "__Type:String", "defaultValue", `'"No longer supported"'`),
		of("__InputValue:@specifiedBy(url)", "name", "'url'", "description", "null", "type", "__Type:String!", "defaultValue", "null"),
		of("__InputValue:__Type.enumValues(includeDeprecated)", "name", "'includeDeprecated'", "description", "null", "type", "__Type:Boolean", "defaultValue", "'false'"),
	))
}

// P15.5: a default is told as its literal stands in the definition, neither as a value of its type nor with defaults filled in.
func TestDefaults(t *testing.T) {
	for _, r := range [][3]string{
		{"Int", "7", "7"}, {"Int", "-0", "-0"}, {"Float", "1", "1"}, {"Float", "1.50", "1.50"}, {"Float", "-0.0E+7", "-0.0E+7"}, {"ID", "7", "7"}, {"ID", `"7"`, `"7"`},
		{"Boolean", "true", "true"}, {"Int", "null", "null"}, {"E", "A", "A"}, {"[Int]", "3", "3"}, {"[Int]", "[1,2 3]", "[1, 2, 3]"}, {"[[Int]]!", "[[],null]", "[[], null]"}, {"[Int]", "[ ]", "[]"},
		{"String", `"a\u0041\n\"\\/"`, `"aA\n\"\\/"`}, {"String", `""`, `""`}, {"String", `"\uD83D\uDE00"`, `"\uD83D\uDE00"`}, {"String", `"\u00e9"`, `"é"`}, {"String", `"""a"""`, "\"\"\"\na\n\"\"\""}, {"String", "\"\"\"\n  a\n    b\n\"\"\"", "\"\"\"\na\n  b\n\"\"\""},
		{"P", "{}", "{}"}, {"P", "{b:2 a:{a:null}}", "{b: 2, a: {a: null}}"}, {"S", `{a:[E "s" 1.0 {b:true}]}`, `{a: [E, "s", 1.0, {b: true}]}`}, {"[S!]!", "1", "1"},
	} {
		typ, preset, want := r[0], r[1], "'"+r[2]+"'"
		s := sound(t, "type Query{a(x:"+typ+"="+preset+"):Int} input P{a:P b:Int=5} input O{x:"+typ+"="+preset+"} directive@d(x:"+typ+"="+preset+")on FIELD enum E{A} scalar S")
		for _, own := range []string{"Query.a(x)", "O.x", "@d(x)"} {
			checkRows(t, s, "P15.5", of("__InputValue:"+own, "defaultValue", want))
		}
	}
}

// P15.6: an enum value's fields.
func TestEnumValues(t *testing.T) {
	s := sound(t, `type Query{a:Int} enum E{"n" A "" B @deprecated C} extend enum E{D @deprecated(reason:"r")}`)
	checkRows(t, s, "P15.6", slices.Concat(
		of("__EnumValue:E.A", "name", "'A'", "description", "'n'", "isDeprecated", "false", "deprecationReason", "null"),
		of("__EnumValue:E.B", "name", "'B'", "description", "''", "isDeprecated", "true", "deprecationReason", "'No longer supported'"),
		of("__EnumValue:E.C", "name", "'C'", "description", "null", "isDeprecated", "false", "deprecationReason", "null"),
		of("__EnumValue:E.D", "name", "'D'", "description", "null", "isDeprecated", "true", "deprecationReason", "'r'"),
		of("__EnumValue:__DirectiveLocation.FIELD", "name", "'FIELD'", "description", "null", "isDeprecated", "false", "deprecationReason", "null"),
	))
}

// P15.6: a directive's fields.
func TestDirectives(t *testing.T) {
	s := sound(t, `type Query{a:Int} "n" directive@d(z:Int y:Int=1@e x:S)repeatable on SCHEMA|FIELD|QUERY scalar S directive@e on|ARGUMENT_DEFINITION directive@Query on QUERY`)
	checkRows(t, s, "P15.6", slices.Concat(
		of("__Directive:@d", "name", "'d'", "description", "'n'", "locations", "['SCHEMA' 'FIELD' 'QUERY']", "args", handles("__InputValue", "@d", "(z) (y) (x)"), "isRepeatable", "true"),
		of("__Directive:@e", "name", "'e'", "description", "null", "locations", "['ARGUMENT_DEFINITION']", "args", "[]", "isRepeatable", "false"),
		of("__Directive:@Query", "name", "'Query'", "description", "null", "locations", "['QUERY']", "args", "[]", "isRepeatable", "false"),
		of("__Directive:@include", "name", "'include'", "description", "null", "locations", "['FIELD' 'FRAGMENT_SPREAD' 'INLINE_FRAGMENT']", "args", "[__InputValue:@include(if)]", "isRepeatable", "false"),
		of("__Directive:@deprecated", "name", "'deprecated'", "description", "null", "locations", "['FIELD_DEFINITION' 'ENUM_VALUE']", "args", "[__InputValue:@deprecated(reason)]", "isRepeatable", "false"),
		of("__Directive:@specifiedBy", "name", "'specifiedBy'", "description", "null", "locations", "['SCALAR']", "args", "[__InputValue:@specifiedBy(url)]", "isRepeatable", "false"),
	))
}

// P15.6: a place that is named twice is told twice.
func TestPlacesTwice(t *testing.T) {
	s := sound(t, "type Query{a:Int} directive@d on FIELD|QUERY|FIELD")
	checkRows(t, s, "P15.6", of("__Directive:@d", "locations", "['FIELD' 'QUERY' 'FIELD']"))
}
