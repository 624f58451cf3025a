package printer_test

import (
	"testing"

	"pergola/api"
	"pergola/printer"
)

// Examples 1, 2 and, of documents, 4.
func TestDocumentExamples(t *testing.T) {
	documents.want(t, `{a(x:1,y:[$v "s"]){b}...F@d ...on T@e{c}...{z:w}}`, `{
  a(x: 1, y: [$v, "s"]) {
    b
  }
  ...F @d
  ... on T @e {
    c
  }
  ... {
    z: w
  }
}
`)
	documents.want(t, `query($a:Int=3@x,$b:[T!]!)@q{a}fragment F on T{b}`, `query($a: Int = 3 @x, $b: [T!]!) @q {
  a
}

fragment F on T {
  b
}
`)
	documents.want(t, `query Q{a}`, "query Q {\n  a\n}\n")
}

func TestNoDefinition(t *testing.T) {
	same(t, "no document", printer.Document(api.Document{}), "")
	same(t, "an empty document", printer.Document(api.Document{Defs: []api.Def{}}), "")
}

// Operations of every kind, with and without each part ahead of their selections.
func TestOperations(t *testing.T) {
	parts := []struct{ src, text string }{
		{"", ""},
		{" Q", " Q"},
		{"($v:T)", "($v: T)"},
		{" Q($v:T)", " Q($v: T)"},
		{"@d", " @d"},
		{" Q@d", " Q @d"},
		{"($v:T)@d", "($v: T) @d"},
		{" Q($v:T $w:U)@d@e(x:1)", " Q($v: T, $w: U) @d @e(x: 1)"},
		{" query", " query"},
		{" on", " on"},
		{" fragment", " fragment"},
	}
	for _, word := range []string{"query", "mutation", "subscription"} {
		for _, p := range parts {
			documents.want(t, word+p.src+"{a}", word+p.text+" {\n  a\n}\n")
		}
	}
	documents.want(t, "{a}", "{\n  a\n}\n")
	documents.want(t, "{a b,c}", "{\n  a\n  b\n  c\n}\n")
	documents.want(t, "{query}", "{\n  query\n}\n")
}

// Short and long queries stay apart.
func TestShort(t *testing.T) {
	documents.want(t, "{a}query{a}{a}query Q{a}", "{\n  a\n}\n\nquery {\n  a\n}\n\n{\n  a\n}\n\nquery Q {\n  a\n}\n")
}

func TestVariables(t *testing.T) {
	for src, text := range map[string]string{
		"$a:T":                          "$a: T",
		"$a:T=1":                        "$a: T = 1",
		"$a:T@d":                        "$a: T @d",
		"$a:T=1@d":                      "$a: T = 1 @d",
		"$a:T@d(x:[])@d":                "$a: T @d(x: []) @d",
		"$a:T=null":                     "$a: T = null",
		"$a:T=[]":                       "$a: T = []",
		"$a:T={}":                       "$a: T = {}",
		"$a:T={b:[{c:E}]d:\"\"}":        "$a: T = {b: [{c: E}], d: \"\"}",
		"$a:[T]":                        "$a: [T]",
		"$a:[T!]!=[1 2]":                "$a: [T!]! = [1, 2]",
		"$a:A$b:B$a:A":                  "$a: A, $b: B, $a: A",
		"$a:A=1@d $b:B=2@e $c:C@f $d:D": "$a: A = 1 @d, $b: B = 2 @e, $c: C @f, $d: D",
		"$true:null=on@on(on:on)":       "$true: null = on @on(on: on)",
	} {
		documents.want(t, "query("+src+"){a}", "query("+text+") {\n  a\n}\n")
		documents.want(t, "mutation M("+src+")@d{a}", "mutation M("+text+") @d {\n  a\n}\n")
	}
}

func TestFields(t *testing.T) {
	for src, text := range map[string]string{
		"a":                       "a",
		"a:b":                     "a: b",
		"a:a":                     "a: a",
		"a(x:1)":                  "a(x: 1)",
		"a(x:1 x:2)":              "a(x: 1, x: 2)",
		"a(x:$v)":                 "a(x: $v)",
		"a:b(x:[$v{y:$w}])":       "a: b(x: [$v, {y: $w}])",
		"a@d":                     "a @d",
		"a@d@d@e":                 "a @d @d @e",
		"a@d(x:1 y:$v)@e(z:null)": "a @d(x: 1, y: $v) @e(z: null)",
		"a:b@d":                   "a: b @d",
		"a(x:1)@d":                "a(x: 1) @d",
		"a:b(x:1)@d(y:2)":         "a: b(x: 1) @d(y: 2)",
		"on":                      "on",
		"on:on(on:on)@on":         "on: on(on: on) @on",
		"true:null":               "true: null",
	} {
		documents.want(t, "{"+src+"}", "{\n  "+text+"\n}\n")
		documents.want(t, "{"+src+"{z}}", "{\n  "+text+" {\n    z\n  }\n}\n")
		documents.want(t, "{"+src+" "+src+"}", "{\n  "+text+"\n  "+text+"\n}\n")
	}
}

func TestSpreads(t *testing.T) {
	for src, text := range map[string]string{
		"...F":                "...F",
		"...F@d":              "...F @d",
		"...F@d(x:$v)@e":      "...F @d(x: $v) @e",
		"...onX":              "...onX",
		"...fragment":         "...fragment",
		"...F...G":            "...F\n  ...G",
		"...{a}":              "... {\n    a\n  }",
		"...@d{a}":            "... @d {\n    a\n  }",
		"...on T{a}":          "... on T {\n    a\n  }",
		"...on on{on}":        "... on on {\n    on\n  }",
		"...on T@d(x:1)@e{a}": "... on T @d(x: 1) @e {\n    a\n  }",
		"...{...{a}...F}":     "... {\n    ... {\n      a\n    }\n    ...F\n  }",
	} {
		documents.want(t, "{"+src+"}", "{\n  "+text+"\n}\n")
		documents.want(t, "{z "+src+" z}", "{\n  z\n  "+text+"\n  z\n}\n")
	}
}

func TestFragments(t *testing.T) {
	documents.want(t, "fragment F on T{a}", "fragment F on T {\n  a\n}\n")
	documents.want(t, "fragment F on T@d(x:1)@e{a b}", "fragment F on T @d(x: 1) @e {\n  a\n  b\n}\n")
	documents.want(t, "fragment fragment on on{fragment}", "fragment fragment on on {\n  fragment\n}\n")
	documents.want(t, "fragment F on T{a}{b}fragment F on T{c}mutation{d}", "fragment F on T {\n  a\n}\n\n{\n  b\n}\n\nfragment F on T {\n  c\n}\n\nmutation {\n  d\n}\n")
}

// Each level has its own indent, and behind it the one around it goes on.
func TestLevels(t *testing.T) {
	documents.want(t, "{a{b{c{d}e}f}g}query{h}", `{
  a {
    b {
      c {
        d
      }
      e
    }
    f
  }
  g
}

query {
  h
}
`)
	documents.want(t, "fragment F on T{...{a{...on U{b}c}}d}", `fragment F on T {
  ... {
    a {
      ... on U {
        b
      }
      c
    }
  }
  d
}
`)
}

// The lines of a block string stand as they are, at whatever level.
func TestBlocksInDocuments(t *testing.T) {
	documents.want(t, "{a{b(x:\"\"\"\n      c\n        d\n\n      e\"\"\" y:\"\"\"f\"\"\"){g}}}", `{
  a {
    b(x: """
c
  d

e
""", y: """
f
""") {
      g
    }
  }
}
`)
	documents.want(t, "query($a:T=[\"\"\" a\"\"\"\"\"\"\"\"\"])@d(x:\"\"\"a\r\tb\"\"\"){c}", "query($a: T = [\"\"\" a\n\"\"\", \"\"\"\"\"\"]) @d(x: \"\"\"\na\nb\n\"\"\") {\n  c\n}\n")
}
