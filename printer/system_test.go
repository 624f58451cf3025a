package printer_test

import (
	"testing"

	"pergola/api"
	"pergola/printer"
)

// Examples 3 and, of definitions, 4.
func TestSystemExamples(t *testing.T) {
	systems.want(t, `"d" type T implements&A&B@k{"f"a("g" x:Int=1@m y:E):[Int!]b:Int}extend union U=|T directive@z(p:I={q:null})repeatable on|FIELD|QUERY extend schema@k`, `"d"
type T implements A & B @k {
  "f"
  a("g" x: Int = 1 @m, y: E): [Int!]
  b: Int
}

extend union U = T

directive @z(p: I = {q: null}) repeatable on FIELD | QUERY

extend schema @k
`)
	systems.want(t, "type T", "type T\n")
}

func TestNoSystem(t *testing.T) {
	same(t, "no definitions", printer.System(nil), "")
	same(t, "an empty list", printer.System([]api.SysDef{}), "")
}

// form is a definition's source and its text behind the name; bare ones can't be extensions.
type form struct {
	src, text string
	bare      bool
}

// wantForms holds definitions with and without notes, and extensions, each alone and with another behind it.
func wantForms(t *testing.T, word string, forms []form) {
	t.Helper()
	for _, f := range forms {
		src, text := word+f.src, word+f.text
		systems.want(t, src, text+"\n")
		systems.want(t, src+" "+src, text+"\n\n"+text+"\n")
		systems.want(t, `"n"`+src, "\"n\"\n"+text+"\n")
		systems.want(t, `""`+src, "\"\"\n"+text+"\n")
		systems.want(t, src+"\"\"\"\n  a\n   b\n\"\"\""+src, text+"\n\n\"\"\"\na\n b\n\"\"\"\n"+text+"\n")
		if !f.bare {
			systems.want(t, "extend "+src, "extend "+text+"\n")
			systems.want(t, "extend "+src+"\"n\""+src+" extend "+src, "extend "+text+"\n\n\"n\"\n"+text+"\n\nextend "+text+"\n")
		}
	}
}

func TestSchemas(t *testing.T) {
	wantForms(t, "schema", []form{
		{"{query:Q}", " {\n  query: Q\n}", false},
		{"{mutation:M}", " {\n  mutation: M\n}", false},
		{"{subscription:S}", " {\n  subscription: S\n}", false},
		{"{subscription:query query:mutation query:query mutation:on}", " {\n  subscription: query\n  query: mutation\n  query: query\n  mutation: on\n}", false},
		{"@d{query:Q}", " @d {\n  query: Q\n}", false},
		{"@d(x:1)@e{query:Q mutation:M}", " @d(x: 1) @e {\n  query: Q\n  mutation: M\n}", false},
	})
	systems.want(t, "extend schema@d", "extend schema @d\n")
	systems.want(t, "extend schema@d(x:[])@e extend schema{query:Q}", "extend schema @d(x: []) @e\n\nextend schema {\n  query: Q\n}\n")
}

func TestScalars(t *testing.T) {
	wantForms(t, "scalar", []form{
		{" S", " S", true},
		{" scalar", " scalar", true},
		{" S@d", " S @d", false},
		{" S@d@e(x:{y:1})", " S @d @e(x: {y: 1})", false},
	})
}

// Objects and interfaces have the same parts.
func TestObjects(t *testing.T) {
	for _, word := range []string{"type", "interface"} {
		wantForms(t, word, []form{
			{" T", " T", true},
			{" implements", " implements", true},
			{" T implements A", " T implements A", false},
			{" T implements&A", " T implements A", false},
			{" T implements A&B", " T implements A & B", false},
			{" T implements&A&B&A", " T implements A & B & A", false},
			{" implements implements implements", " implements implements implements", false},
			{" T@d", " T @d", false},
			{" T{a:A}", " T {\n  a: A\n}", false},
			{" T implements A@d", " T implements A @d", false},
			{" T implements A{a:A}", " T implements A {\n  a: A\n}", false},
			{" T@d(x:1)@e{a:A}", " T @d(x: 1) @e {\n  a: A\n}", false},
			{" T implements A&B@d{a:A b:B}", " T implements A & B @d {\n  a: A\n  b: B\n}", false},
		})
	}
}

func TestFieldDefinitions(t *testing.T) {
	for src, text := range map[string]string{
		"a:A":                     "a: A",
		"a:[A!]!":                 "a: [A!]!",
		"a:A@d":                   "a: A @d",
		"a:A@d(x:1)@e":            "a: A @d(x: 1) @e",
		"a(b:B):A":                "a(b: B): A",
		"a(b:B=1):A":              "a(b: B = 1): A",
		"a(b:B@d):A":              "a(b: B @d): A",
		"a(b:B=1@d(x:2)@e):A":     "a(b: B = 1 @d(x: 2) @e): A",
		"a(b:B c:[C]!=[]d:D):A":   "a(b: B, c: [C]! = [], d: D): A",
		"a(b:B):A@d":              "a(b: B): A @d",
		"a(\"n\"b:B):A":           "a(\"n\" b: B): A",
		"a(b:B\"n\"c:C\"\"d:D):A": "a(b: B, \"n\" c: C, \"\" d: D): A",
		"a(\"\"\"\n  n\n   m\"\"\"b:B=1@d \"\"\"\"\"\"c:C):A@e": "a(\"\"\"\nn\n m\n\"\"\" b: B = 1 @d, \"\"\"\"\"\" c: C): A @e",
		"\"n\"a:A":                         "\"n\"\n  a: A",
		"\"\"a(\"m\"b:B):A@d":              "\"\"\n  a(\"m\" b: B): A @d",
		"\"\"\"\n   n\n\n    m\n\"\"\"a:A": "\"\"\"\nn\n\n m\n\"\"\"\n  a: A",
		"\"\"\" n\"\"\"a:A":                "\"\"\" n\n\"\"\"\n  a: A",
		"type:type":                        "type: type",
		"true(null:null=null):on":          "true(null: null = null): on",
	} {
		for _, word := range []string{"type", "interface", "extend type", "extend interface"} {
			systems.want(t, word+" T{"+src+"}", word+" T {\n  "+text+"\n}\n")
			systems.want(t, word+" T@d{"+src+" "+src+"}", word+" T @d {\n  "+text+"\n  "+text+"\n}\n")
		}
	}
}

func TestUnions(t *testing.T) {
	wantForms(t, "union", []form{
		{" U", " U", true},
		{" U=A", " U = A", false},
		{" U=|A", " U = A", false},
		{" U=A|B|A", " U = A | B | A", false},
		{" U=|A|B", " U = A | B", false},
		{" U@d", " U @d", false},
		{" U@d(x:1)@e=|A|B", " U @d(x: 1) @e = A | B", false},
		{" union=union|union", " union = union | union", false},
	})
}

func TestEnums(t *testing.T) {
	wantForms(t, "enum", []form{
		{" E", " E", true},
		{" E{A}", " E {\n  A\n}", false},
		{" E{A B A}", " E {\n  A\n  B\n  A\n}", false},
		{" E{A@d B@d(x:1)@e C}", " E {\n  A @d\n  B @d(x: 1) @e\n  C\n}", false},
		{" E{\"n\"A\"\"B@d \"\"\"\n  m\n  o\n\"\"\"C}", " E {\n  \"n\"\n  A\n  \"\"\n  B @d\n  \"\"\"\nm\no\n\"\"\"\n  C\n}", false},
		{" E@d", " E @d", false},
		{" E@d@e{enum}", " E @d @e {\n  enum\n}", false},
	})
}

func TestInputs(t *testing.T) {
	wantForms(t, "input", []form{
		{" I", " I", true},
		{" I{a:A}", " I {\n  a: A\n}", false},
		{" I{a:A=1}", " I {\n  a: A = 1\n}", false},
		{" I{a:A@d}", " I {\n  a: A @d\n}", false},
		{" I{a:[A!]=[{b:\"c\"}]@d(x:1)@e b:B a:A}", " I {\n  a: [A!] = [{b: \"c\"}] @d(x: 1) @e\n  b: B\n  a: A\n}", false},
		{" I{\"n\"a:A \"\"b:B=1@d \"\"\"\n  m\n   o\"\"\"c:C}", " I {\n  \"n\"\n  a: A\n  \"\"\n  b: B = 1 @d\n  \"\"\"\nm\n o\n\"\"\"\n  c: C\n}", false},
		{" I{a:A=\"\"\"\n  m\n   o\"\"\"@d b:B}", " I {\n  a: A = \"\"\"\nm\n o\n\"\"\" @d\n  b: B\n}", false},
		{" I@d", " I @d", false},
		{" I@d@e(x:null){input:input}", " I @d @e(x: null) {\n  input: input\n}", false},
	})
}

func TestDirectiveDefinitions(t *testing.T) {
	wantForms(t, "directive", []form{
		{"@d on FIELD", " @d on FIELD", true},
		{"@d on|FIELD", " @d on FIELD", true},
		{"@d on|FIELD|QUERY|FIELD", " @d on FIELD | QUERY | FIELD", true},
		{"@d repeatable on ENUM_VALUE|INPUT_FIELD_DEFINITION", " @d repeatable on ENUM_VALUE | INPUT_FIELD_DEFINITION", true},
		{"@d(a:A)on FIELD", " @d(a: A) on FIELD", true},
		{"@d(a:A)repeatable on FIELD", " @d(a: A) repeatable on FIELD", true},
		{"@d(a:A=1@e b:[B!]!)on FIELD", " @d(a: A = 1 @e, b: [B!]!) on FIELD", true},
		{"@d(\"n\"a:A \"\"b:B \"\"\"m\"\"\"c:C={})repeatable on SCHEMA", " @d(\"n\" a: A, \"\" b: B, \"\"\"\nm\n\"\"\" c: C = {}) repeatable on SCHEMA", true},
		{"@on on SCALAR", " @on on SCALAR", true},
		{"@repeatable repeatable on OBJECT", " @repeatable repeatable on OBJECT", true},
	})
}
