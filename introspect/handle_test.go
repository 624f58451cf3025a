package introspect_test

import (
	"slices"
	"strings"
	"testing"

	"pergola/api"
	"pergola/introspect"
)

// P15.8: descriptions of everything that can have one: a text, the empty text, none.
func TestDescriptions(t *testing.T) {
	const src = `#schema{query:Query}#type Query implements I{#a(#x:Int):Int}#interface I{#a(#x:Int):Int}#union U=Query#scalar S#enum E{#A}#input P{#x:Int}#directive@d(#x:Int)on FIELD`
	handles := strings.Fields("__Schema: __Type:Query __Field:Query.a __InputValue:Query.a(x) __Type:I __Field:I.a __InputValue:I.a(x) __Type:U __Type:S __Type:E __EnumValue:E.A __Type:P __InputValue:P.x __Directive:@d __InputValue:@d(x)")
	if strings.Count(src, "#") != len(handles) {
		t.Fatal("descriptions:", strings.Count(src, "#"), "handles:", len(handles))
	}
	for _, r := range [][2]string{{" ", "null"}, {`"d"`, "'d'"}, {`""`, "''"}, {`""""""`, "''"}, {"\"\"\"\n  a\n    b\n  \"\"\"", "'a\n  b'"}, {`"\u0041\n\\\""`, "'A\n\\\"'"}, {`"null"`, "'null'"}} {
		s := sound(t, strings.ReplaceAll(src, "#", r[0]))
		for _, handle := range handles {
			checkRows(t, s, "P15.8", of(handle, "description", r[1]))
		}
	}
	// Each has its own one.
	own := src
	for _, handle := range handles {
		own = strings.Replace(own, "#", `"`+strings.ReplaceAll(handle, "(", "-")+`"`, 1)
	}
	s := sound(t, own)
	for _, handle := range handles {
		checkRows(t, s, "P15.8", of(handle, "description", "'"+strings.ReplaceAll(handle, "(", "-")+"'"))
		if typ, ok := strings.CutPrefix(handle, "__Type:"); ok {
			checkRows(t, s, "P15.3", append(of("__Type:["+typ+"]", "description", "null"), of("__Type:"+typ+"!", "description", "null")...))
		}
	}
}

// P15.8: an extension's parts have their own descriptions; what is built in has none.
func TestDescriptionsOfOthers(t *testing.T) {
	s := sound(t, `type Query{a:Int} extend type Query{"b" b:Int} "q" schema{query:Query} extend schema{mutation:M} type M{a:Int}`)
	checkRows(t, s, "P15.8", slices.Concat(of("__Type:Query", "description", "null"), of("__Field:Query.b", "description", "'b'"), of("__Schema:", "description", "'q'"), of("__Type:M", "description", "null")))
	for _, name := range strings.Fields(builtInTypes) {
		checkRows(t, s, "P15.8", of("__Type:"+name, "description", "null"))
	}
	for _, name := range strings.Fields(builtInDirectives) {
		checkRows(t, s, "P15.8", of("__Directive:@"+name, "description", "null"))
	}
}

const handled = `type Query implements I{a(x:Int y:Int):Int b:E} interface I{a(x:Int):Int} union U=Query enum E{A B} scalar S input P{x:Int y:P} directive@d(x:Int)on FIELD
type d{d:Int A:Int x:Int} enum x{x d} input A{a:Int d:Int} directive@Query(a:Int Query:Int)on FIELD directive@A on FIELD`

// knownHandles is one known handle of each form and kind.
func knownHandles() []string {
	return strings.Fields("__Schema: __Type:Query __Type:I __Type:U __Type:E __Type:S __Type:P __Type:Int __Type:__Type __Type:[E!]! __Field:Query.a __Field:I.a __Field:__Type.fields __InputValue:Query.a(x) __InputValue:I.a(x) __InputValue:P.x __InputValue:@d(x) __InputValue:@skip(if) __EnumValue:E.A __EnumValue:__TypeKind.LIST __Directive:@d __Directive:@skip")
}

// otherNames are no fields of any introspection type, or not of every one.
func otherNames(t testing.TB) []string {
	names := []string{"", " ", "nope", "__typename", "__schema", "__type", "Name", "NAME", "name ", "names", "specifiedByUrl", "isOneOf", "a", "x", "\xff", "name\x00", "_", "__"}
	for _, typ := range objectTypes() {
		names = append(names, fieldsOf(t, typ)...)
	}
	return names
}

// P15.9: a known handle has the fields that chapter 12 gives its type, and no others, whatever its arguments.
func TestFieldsThatAreThere(t *testing.T) {
	s := sound(t, handled)
	for _, known := range knownHandles() {
		typ, own, _ := strings.Cut(known, ":")
		for _, field := range otherNames(t) {
			for _, args := range [][]api.Member{nil, deprecatedToo(), arg("name", text("E")), {{}, {Name: field}, {Name: "x", Value: api.Value{Kind: 99}}}} {
				v, ok := introspect.Field(s, handle(typ, own), field, args)
				if ok != slices.Contains(fieldsOf(t, typ), field) || !ok && told(v, ok) != nothing {
					t.Errorf("P15.9: %s %q: %s", known, field, told(v, ok))
				}
			}
		}
	}
}

// P15.9: arguments that a field doesn't have are passed over.
func TestOtherArguments(t *testing.T) {
	s := sound(t, handled+" type Z{a:Int@deprecated b:Int}")
	for _, known := range knownHandles() {
		typ, own, _ := strings.Cut(known, ":")
		for _, field := range fieldsOf(t, typ) {
			want := told(introspect.Field(s, handle(typ, own), field, nil))
			for _, args := range [][]api.Member{deprecatedToo(), arg("name", text("E")), {{}, {Name: field}, {Name: "x", Value: api.Value{Kind: 99}}}} {
				if got := told(introspect.Field(s, handle(typ, own), field, args)); got != want {
					t.Errorf("P15.9: %s %s: got %s, want %s", known, field, got, want)
				}
			}
		}
	}
}

// Handles that are no known ones: of each type texts of other forms, and texts that name nothing.
func TestUnknownHandles(t *testing.T) {
	s := sound(t, handled)
	for typ, owns := range map[string]string{
		"__Schema":     "x Query __Schema . @ ! []",
		"__Type":       "Nope query QUERY Query. .Query Query.a @d @ Query!! Query!!! [Query]!! [Query!!] ![Query] !Query [Query Query] [[Query] [Query]] [Query]] [[Query]]] [[[Query]] ]Query[ ][ [] []! [!] ! ] [ Query[] Query][ [Query][ [Query]x [Query]!x [Query!]x! x[Query] [x[Query]] [Query][E] Query,E Query|E [Nope] Nope! [Nope!]! [,Query] [Query,] (Query) {Query} Query? Query!]! [Query!]!! [[Query!]!!] [Query]!]! \"Query\" Int] [Int Query\n \nQuery \xff Query\xff [Query\xff] A.a é #Query ...Query",
		"__Field":      "Query Query. . .a Query.c Query.A Query.a. .Query.a Query..a Query.a.b Query.a(x) Query.a() Query.a( Query.a) @Query.a Query.__typename Query.__schema Query.__type I.__typename U.__typename U.a __Type.__typename E.A P.x S.x S. A.a x.d Nope.a Query!.a [Query].a Query.a! Query.b. query.a Query,a Query:a Query-a @d.x a Query.a\n \xff Query.\xff Int.a __TypeKind.LIST __Type.nope __Field",
		"__InputValue": "Query Query.a Query.a() Query.a( Query.a(x Query.ax) Query.a(z) Query.b(x) Query.c(x) Query.a(x)) Query.a((x) Query.a((x)) Query.a(x)(x) Query.a(x)(y) Query.a(x.y) Query.a(x,y) Query(x) (x) Query.(x) .a(x) Query..a(x) Query.a.(x) Query.a.b(x) U.a(x) P.z P. .x P P.x. P..x P.x() P.x(x) P.x(y) P.(x) P(x) A.x A.a(a) A.d(d) @ @d @d() @d(y) @d(x @dx) @(x) d(x) @@d(x) @d.x @d.x(x) @d(x)(x) @d(x)) @skip @skip() @skip(x) @skip(if)) skip(if) @nope(x) @nope(if) @A(a) @Query(x) @Query.a(x) @P.x E.A Query.__type(name) __Type.fields __Type.fields(x) __Type.name(includeDeprecated) __Schema.includeDeprecated x.x P.x! P.x\n \xff P.\xff I.a(y) P,x @d(\xff) d.d",
		"__EnumValue":  "E A E. .A E.C E.a e.A E.A. E..A E.A.B .E.A E.A() E.A(x) E,A E:A [E].A E!.A E.A! @E.A Query.a P.x U.Query S.A Nope.A E.E x.A x.a d.d A.a A.d __TypeKind __TypeKind.list __TypeKind.FIELD __DirectiveLocation.LIST E.A\n \xff E.\xff Int.A E.__typename",
		"__Directive":  "d @ @@d @d. @d() @d(x) @D @nope @E @I @U @Int @__Type skip @Skip @skip(if) @skip. @skip@skip d@ @d@d @d! [@d] @\xff @d\n \n@d @x @deprecate @deprecated.reason",
	} {
		texts := append(strings.Split(owns, " "), " ", "\x00", strings.Repeat("[", 1000), strings.Repeat("!", 1000), strings.Repeat("]", 1000), strings.Repeat(".", 1000), strings.Repeat("(", 1000), strings.Repeat("@", 1000))
		if typ != "__Schema" {
			texts = append(texts, "")
		}
		for _, own := range texts {
			for _, field := range otherNames(t) {
				if got := told(introspect.Field(s, handle(typ, own), field, deprecatedToo())); got != nothing {
					t.Errorf("%s:%q %s: got %s", typ, own, field, got)
				}
			}
		}
	}
}

// A text of one form is no text of another's.
func TestFormsApart(t *testing.T) {
	s := sound(t, handled)
	for _, known := range knownHandles() {
		own := known[strings.Index(known, ":")+1:]
		for _, typ := range append(objectTypes(), "", "Query", "__TypeKind", "__DirectiveLocation", "__schema", "__type", "__Types", "Schema", "Type", "__type ", "__Nope", "\xff", "d", "Int") {
			if slices.Contains(knownHandles(), typ+":"+own) {
				continue
			}
			for _, field := range otherNames(t) {
				if got := told(introspect.Field(s, handle(typ, own), field, nil)); got != nothing {
					t.Errorf("%s:%s %s: got %s", typ, own, field, got)
				}
			}
		}
	}
}

// Only a KindHandle is a handle; the fields that don't count in one make no difference.
func TestKindsOfHandles(t *testing.T) {
	s := sound(t, handled)
	for _, known := range knownHandles() {
		typ, own, _ := strings.Cut(known, ":")
		for _, field := range otherNames(t) {
			v := handle(typ, own)
			want := told(introspect.Field(s, v, field, nil))
			v.Bool, v.Int, v.Float, v.Items, v.Fields = true, 7, 1.5, []api.Value{handle("__Type", "E")}, arg("name", handle("__Type", "E"))
			if got := told(introspect.Field(s, v, field, nil)); got != want {
				t.Errorf("%s %s with more: got %s, want %s", known, field, got, want)
			}
			for _, kind := range []api.Kind{api.KindNull, api.KindBool, api.KindInt, api.KindFloat, api.KindString, api.KindList, api.KindObject, 8, -1, 1 << 40} {
				v.Kind = kind
				if got := told(introspect.Field(s, v, field, nil)); got != nothing {
					t.Errorf("%s %s of kind %d: got %s", known, field, kind, got)
				}
			}
		}
	}
}
