package sdl_test

import "testing"

// Fields with and without description, arguments and directives.
func TestFields(t *testing.T) {
	for src, out := range map[string]string{
		"a:A":                              "a@1:8 :A ",
		"a:A b:B,a:A":                      "a@1:8 :A b@1:12 :B a@1:16 :A ",
		"a : [ [ A ! ] ] !":                "a@1:8 :A !]]!",
		"\"n\"a:A":                         "s\"n\" a@1:11 :A ",
		"\"\"\"n\"\"\"a:A":                 "k\"n\" a@1:15 :A ",
		"\"\"a:A":                          "s\"\" a@1:10 :A ",
		"\"\"\"\"\"\"a:A":                  "k\"\" a@1:14 :A ",
		"\"\\u0041\"a:A\"\"\"b\"\"\"b:B":   "s\"A\" a@1:16 :A k\"b\" b@1:26 :B ",
		"a:A@d":                            "a@1:8 :A @d@1:11 ",
		"a:A@d@d(x:[1{y:null}])b:B":        "a@1:8 :A @d@1:11 @d@1:13 (x@1:16:[@1:18 i1@1:19 {@1:20 y@1:21:null@1:23 } ] ) b@1:30 :B ",
		"a:A!@d b:[B]@d":                   "a@1:8 :A !@d@1:12 b@1:15 :B ]@d@1:20 ",
		"a(b:B):A":                         "a@1:8 ( b@1:10 :B ) :A ",
		"a(b:B c:C=1@d):A@e":               "a@1:8 ( b@1:10 :B c@1:14 :C =i1@1:18 @d@1:19 ) :A @e@1:24 ",
		"\"n\"a(\"m\"b:[B!]):A":            "s\"n\" a@1:11 ( s\"m\" b@1:16 :B !]) :A ",
		"a(\"\"\"m\"\"\"b:B={}\"l\"c:C):A": "a@1:8 ( k\"m\" b@1:17 :B ={@1:21 } s\"l\" c@1:26 :C ) :A ",
		"a(b:B=\"s\"c:C):A":                "a@1:8 ( b@1:10 :B =s\"s\"@1:14 c@1:17 :C ) :A ",
		"a(b:B=\"s\"\"n\"c:C):A":           "a@1:8 ( b@1:10 :B =s\"s\"@1:14 s\"n\" c@1:20 :C ) :A ",
		"a(b:B\"n\"c:C):A":                 "a@1:8 ( b@1:10 :B s\"n\" c@1:16 :C ) :A ",
	} {
		want(t, "type T{"+src+"}", 9, "type T@1:6 { "+out+"} ")
		for _, begin := range []string{"interface T", "extend type T", "extend interface T", "type T implements I@d"} {
			checkSource(t, begin+"{"+src+"}scalar S", 9)
		}
	}
}

func TestFaultsOfFields(t *testing.T) {
	for src, fault := range map[string]string{
		"{":                    "1:8",
		"{}":                   "1:8",
		"{,}":                  "1:9",
		"{a":                   "1:9",
		"{a}":                  "1:9",
		"{a:":                  "1:10",
		"{a:}":                 "1:10",
		"{a:A":                 "1:11",
		"{a:A)":                "1:11",
		"{a:A]":                "1:11",
		"{a:A{":                "1:11",
		"{:A}":                 "1:8",
		"{1:A}":                "1:8",
		"{a A}":                "1:10",
		"{a::A}":               "1:10",
		"{a:A:B}":              "1:11",
		"{a:A B}":              "1:13",
		"{a:A b:}":             "1:14",
		"{a:1}":                "1:10",
		"{a:\"A\"}":            "1:10",
		"{a:$A}":               "1:10",
		"{a:{b:B}}":            "1:10",
		"{a:(A)}":              "1:10",
		"{a:A|B}":              "1:11",
		"{a:A&B}":              "1:11",
		"{a:A=1}":              "1:11",
		"{a=1}":                "1:9",
		"{a!:A}":               "1:9",
		"{a:!A}":               "1:10",
		"{a:A!!}":              "1:12",
		"{a:[]}":               "1:11",
		"{a:[A}":               "1:12",
		"{a:[A B]}":            "1:13",
		"{@d a:A}":             "1:8",
		"{a@d:A}":              "1:9",
		"{a:A@}":               "1:12",
		"{a:A@d()}":            "1:14",
		"{a:A@d(x:$v)}":        "1:16",
		"{a:A@d(x:[{y:$v}])}":  "1:20",
		"{a:A(b:B)}":           "1:11",
		"{a:A@d{b:B}}":         "1:13",
		"{\"n\"}":              "1:11",
		"{\"n\"\"m\"a:A}":      "1:11",
		"{\"n\"":               "1:11",
		"{\"n\":A}":            "1:11",
		"{a\"n\":A}":           "1:9",
		"{a:\"n\"A}":           "1:10",
		"{a:A\"n\"}":           "1:14",
		"{a:A\"n\"@d}":         "1:14",
		"{a()}":                "1:10",
		"{a():A}":              "1:10",
		"{a(":                  "1:10",
		"{a(b":                 "1:11",
		"{a(b):A}":             "1:11",
		"{a(b:":                "1:12",
		"{a(b:):A}":            "1:12",
		"{a(b:B":               "1:13",
		"{a(b:B}":              "1:13",
		"{a(b:B]":              "1:13",
		"{a(b:B)}":             "1:14",
		"{a(b:B)A}":            "1:14",
		"{a(b:B)(c:C):A}":      "1:14",
		"{a(b:B)@d:A}":         "1:14",
		"{a(b:1):A}":           "1:12",
		"{a(b:B=):A}":          "1:14",
		"{a(b:B=$v):A}":        "1:14",
		"{a(b:B=[$v]):A}":      "1:15",
		"{a(b:B={c:[$v]}):A}":  "1:18",
		"{a(b:B@d(x:$v)):A}":   "1:18",
		"{a(b:B=1 2):A}":       "1:16",
		"{a(b:B=1=2):A}":       "1:15",
		"{a(b=1):A}":           "1:11",
		"{a(b:B@d=1):A}":       "1:15",
		"{a(\"n\"):A}":         "1:13",
		"{a(\"n\"\"m\"b:B):A}": "1:13",
		"{a(b:B\"n\"):A}":      "1:16",
		"{a(b:B=1\"n\"):A}":    "1:18",
		"{a(b(c:C):B):A}":      "1:11",
		"{a($b:B):A}":          "1:10",
		"{a{b:B}:A}":           "1:9",
		"{...F}":               "1:8",
		"{a:A ...F}":           "1:12",
		"{a:?}":                "1:10",
		"{a?":                  "1:9",
	} {
		want(t, "type T"+src, 9, "syntax "+fault)
		for _, begin := range []string{"interface T", "extend type T", "extend interface T", "extend type T implements I", "interface T@d"} {
			checkSource(t, begin+src, 9)
		}
	}
}

// Input types' fields.
func TestInputs(t *testing.T) {
	for src, out := range map[string]string{
		"a:A":                    "a@1:9 :A ",
		"a:A=1":                  "a@1:9 :A =i1@1:13 ",
		"a:A!=-1.5":              "a@1:9 :A !=f-1.5@1:14 ",
		"a:A=null":               "a@1:9 :A =null@1:13 ",
		"a:A=true@d":             "a@1:9 :A =btrue@1:13 @d@1:17 ",
		"a:A=e b:B":              "a@1:9 :A =ee@1:13 b@1:15 :B ",
		"a:A=\"s\"b:B":           "a@1:9 :A =s\"s\"@1:13 b@1:16 :B ",
		"a:A=\"\"\"k\"\"\"":      "a@1:9 :A =k\"k\"@1:13 ",
		"a:[A]=[1[2]{b:3 b:4}]":  "a@1:9 :A ]=[@1:15 i1@1:16 [@1:17 i2@1:18 ] {@1:20 b@1:21:i3@1:23 b@1:25:i4@1:27 } ] ",
		"a:A={}b:B=[]":           "a@1:9 :A ={@1:13 } b@1:15 :B =[@1:19 ] ",
		"\"n\"a:A@d@e(x:1)a:A":   "s\"n\" a@1:12 :A @d@1:15 @e@1:17 (x@1:20:i1@1:22 ) a@1:24 :A ",
		"\"\"\"\n  n\n\"\"\"a:A": "k\"n\" a@3:4 :A ",
		"a:A=\"s\"\"n\"b:B":      "a@1:9 :A =s\"s\"@1:13 s\"n\" b@1:19 :B ",
		"a:A=1@d b:B@d=1":        "",
	} {
		if out == "" {
			want(t, "input I{"+src+"}", 9, "syntax 1:22")
			continue
		}
		want(t, "input I{"+src+"}", 9, "input I@1:7 { "+out+"} ")
		checkSource(t, "extend input I{"+src+"}scalar S", 9)
		checkSource(t, "extend input I@d{"+src+"}", 9)
	}
	for src, fault := range map[string]string{
		"{": "1:9", "{}": "1:9", "{a": "1:10", "{a}": "1:10", "{a:": "1:11", "{a:A": "1:12", "{a:A=": "1:13", "{a:A=}": "1:13", "{a:A=$v}": "1:13", "{a:A=[1 $v]}": "1:16", "{a:A={b:$v}}": "1:16", "{a:A@d(x:$v)}": "1:17", "{a(b:B):A}": "1:10", "{a=1}": "1:10", "{a:A=1 2}": "1:15", "{a:A=(1)}": "1:13", "{a:A={b}}": "1:15", "{a:A=1)": "1:14", "{\"n\"}": "1:12", "{a:A\"n\"}": "1:15", "{a:A=\"n\"}}": "1:17", "{a:A=?}": "1:13", "{$a:A}": "1:9", "{{a:A}}": "1:9",
	} {
		want(t, "input I"+src, 9, "syntax "+fault)
		checkSource(t, "extend input I"+src, 9)
	}
}

// Cases of enums.
func TestCases(t *testing.T) {
	for src, out := range map[string]string{
		"a":                         "a@1:8 ",
		"a b,A a":                   "a@1:8 b@1:10 A@1:12 a@1:14 ",
		"\"n\"a b":                  "s\"n\" a@1:11 b@1:13 ",
		"a\"n\"b\"\"\"m\"\"\"c":     "a@1:8 s\"n\" b@1:12 k\"m\" c@1:20 ",
		"a@d b@d@e(x:true)c":        "a@1:8 @d@1:9 b@1:12 @d@1:13 @e@1:15 (x@1:18:btrue@1:20 ) c@1:25 ",
		"\"n\"a@d\"m\"b":            "s\"n\" a@1:11 @d@1:12 s\"m\" b@1:17 ",
		"truest False NULL nullify": "truest@1:8 False@1:15 NULL@1:21 nullify@1:26 ",
	} {
		want(t, "enum E{"+src+"}", 9, "enum E@1:6 { "+out+"} ")
		checkSource(t, "extend enum E{"+src+"}scalar S", 9)
		checkSource(t, "extend enum E@d{"+src+"}", 9)
	}
	for src, fault := range map[string]string{
		"{": "1:8", "{}": "1:8", "{a": "1:9", "{true}": "1:8", "{false}": "1:8", "{null}": "1:8", "{a null}": "1:10", "{\"n\"false}": "1:11", "{a@d true}": "1:12", "{1}": "1:8", "{\"n\"}": "1:11", "{a\"n\"}": "1:12", "{\"n\"\"m\"a}": "1:11", "{a:A}": "1:9", "{a=1}": "1:9", "{a|b}": "1:9", "{a(b:B)}": "1:9", "{a!}": "1:9", "{@d}": "1:8", "{a@}": "1:10", "{a@d(x:$v)}": "1:14", "{a{b}}": "1:9", "{a)": "1:9", "{a]": "1:9", "{...a}": "1:8", "{$a}": "1:8", "{a?}": "1:9", "{?": "1:8",
	} {
		want(t, "enum E"+src, 9, "syntax "+fault)
		checkSource(t, "extend enum E"+src, 9)
	}
}

// Roots of schemas.
func TestRoots(t *testing.T) {
	for src, out := range map[string]string{
		"query:Q":                             "query@1:8 :Q ",
		"mutation:M":                          "mutation@1:8 :M ",
		"subscription:S":                      "subscription@1:8 :S ",
		"subscription:S,query:Q\tmutation:M":  "subscription@1:8 :S query@1:23 :Q mutation@1:31 :M ",
		"query:Q query:Q":                     "query@1:8 :Q query@1:16 :Q ",
		"query : query mutation : mutation":   "query@1:8 :query mutation@1:22 :mutation ",
		"mutation:query\nsubscription:schema": "mutation@1:8 :query subscription@2:1 :schema ",
	} {
		want(t, "schema{"+src+"}", 9, "schema@1:1 { "+out+"} ")
		checkSource(t, "extend schema{"+src+"}scalar S", 9)
		checkSource(t, "extend schema@d{"+src+"}", 9)
		checkSource(t, "\"n\"schema@d{"+src+"}", 9)
	}
	for src, fault := range map[string]string{
		"{": "1:8", "{}": "1:8", "{query": "1:13", "{query}": "1:13", "{query:": "1:14", "{query:}": "1:14", "{query:Q": "1:15", "{query Q}": "1:14", "{Query:Q}": "1:8", "{queries:Q}": "1:8", "{fragment:F}": "1:8", "{type:T}": "1:8", "{query:1}": "1:14", "{query:\"Q\"}": "1:14", "{query:[Q]}": "1:14", "{query:Q!}": "1:15", "{query:Q@d}": "1:15", "{query:Q=1}": "1:15", "{\"n\"query:Q}": "1:8", "{query:Q\"n\"mutation:M}": "1:15", "{query(a:A):Q}": "1:13", "{query:Q Q}": "1:16", "{query::Q}": "1:14", "{query:Q)": "1:15", "{query:Q mutation}": "1:24", "{@d}": "1:8", "{query:Q|M}": "1:15", "{query:?}": "1:14", "{?": "1:8",
	} {
		want(t, "schema"+src, 9, "syntax "+fault)
		checkSource(t, "extend schema"+src, 9)
		checkSource(t, "extend schema@d"+src, 9)
	}
}

// What may stand behind a definition is the next one alone.
func TestBehindADefinition(t *testing.T) {
	for _, src := range []string{"}", ")", "]", "a", "on", "...", "$v", "!", ":", "=", "|", "&", "{", "(", "[", "@", "1", "1.5", "\"s\"", "\"\"\"k\"\"\"", "?", "\x80", "query{a}", "true", "implements", "repeatable", "extend", "type", "type T", "extend type T@d", "\"s\"type T", "\"s\"extend type T@d", "FIELD"} {
		for _, begin := range []string{"schema{query:Q}", "scalar S", "scalar S@d", "type T", "type T implements A", "type T@d", "type T{a:A}", "interface I", "interface I{a:A}", "union U", "union U=A", "enum E", "enum E@d", "enum E{a}", "input I", "input I{a:A}", "directive @d on FIELD"} {
			checkSource(t, begin+" "+src, 9)
			checkSource(t, begin+" "+src, 0)
			checkSource(t, "extend "+begin+" "+src, 9)
			checkSource(t, "\"n\""+begin+" "+src, 9)
		}
	}
}
