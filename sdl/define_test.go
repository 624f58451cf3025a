package sdl_test

import (
	"strings"
	"testing"

	"pergola/api"
	"pergola/sdl"
)

// part is something that may stand in a definition, and what is told of it; a # there stands ahead of how far behind the part's beginning a place lies.
type part struct{ src, told string }

var (
	theIfaces  = part{"implements A&B ", "&A@#11 &B@#13 "}
	theDirs    = part{"@d@e(x:1)", "@d@#0 @e@#2 (x@#5:i1@#7 ) "}
	theFields  = part{"{f:F}", "{ f@#1 :F } "}
	theMembers = part{"=A|B ", "|A@#1 |B@#3 "}
	theCases   = part{"{c}", "{ c@#1 } "}
	theRoots   = part{"{query:Q}", "{ query@#1 :Q } "}
)

// tell is what is told of a part that begins at a column.
func (p part) tell(from int) string {
	out := p.told
	for far := 15; far >= 0; far-- {
		out = strings.ReplaceAll(out, "#"+col(far), "1:"+col(from+far))
	}
	return out
}

// kinds are the keywords of what can be extended, with their parts.
var kinds = []struct {
	word  string
	parts []part
}{
	{"schema", []part{theDirs, theRoots}},
	{"scalar", []part{theDirs}},
	{"type", []part{theIfaces, theDirs, theFields}},
	{"interface", []part{theIfaces, theDirs, theFields}},
	{"union", []part{theDirs, theMembers}},
	{"enum", []part{theDirs, theCases}},
	{"input", []part{theDirs, theFields}},
}

// some are the parts that a number's bits choose, behind a beginning.
func some(begin string, parts []part, bits int) (src, out string) {
	src = begin
	for i, p := range parts {
		if bits>>i&1 == 1 {
			out += p.tell(len(src) + 1)
			src += p.src
		}
	}
	return src, out
}

// P10.1: every kind of definition and of extension, with and without each part; an extension needs one, and a schema its roots.
func TestEveryKind(t *testing.T) {
	for _, kind := range kinds {
		for _, ahead := range []struct{ src, told string }{{"", ""}, {"\"d\" ", "s\"d\" "}, {"\"\"\"k\"\"\"", "k\"k\" "}, {"extend ", "extend "}} {
			for bits := range 1 << len(kind.parts) {
				begin := ahead.src + kind.word + " T "
				known := ahead.told + kind.word + " T@1:" + col(len(begin)-1) + " "
				if kind.word == "schema" {
					begin = ahead.src + "schema "
					known = ahead.told + "schema@1:" + col(len(ahead.src)+1) + " "
				}
				src, out := some(begin, kind.parts, bits)
				if ahead.src == "extend " && bits == 0 || ahead.src != "extend " && kind.word == "schema" && bits < 2 {
					want(t, src, 9, "syntax 1:"+col(len(src)+1))
					want(t, src+"scalar S", 9, "syntax 1:"+col(len(src)+1))
					continue
				}
				want(t, src, 9, known+out)
				want(t, src+" scalar S", 9, known+out+"scalar S@1:"+col(len(src)+9)+" ")
			}
		}
	}
}

// P10.2: parts stand in their order, each once at most, and just those of the kind.
func TestPartsOutOfOrder(t *testing.T) {
	all := []part{theIfaces, theDirs, theFields, theMembers, theCases, theRoots}
	for _, kind := range kinds {
		for _, ahead := range []string{"", "extend "} {
			begin := ahead + kind.word + " T"
			if kind.word == "schema" {
				begin = ahead + "schema"
			}
			for _, one := range all {
				checkSource(t, begin+" "+one.src, 9)
				for _, two := range all {
					checkSource(t, begin+" "+one.src+two.src, 9)
					checkSource(t, begin+" "+one.src+two.src+one.src, 9)
				}
			}
		}
	}
	for src, fault := range map[string]string{
		"type T{a:A}implements B":           "1:12",
		"type T@d implements B":             "1:10",
		"type T{a:A}@d":                     "1:12",
		"type T{a:A}{b:B}":                  "1:12",
		"type T=A":                          "1:7",
		"type T|A":                          "1:7",
		"type T&A":                          "1:7",
		"type T(a:A){b:B}":                  "1:7",
		"type T:A":                          "1:7",
		"type T!":                           "1:7",
		"type [T]":                          "1:6",
		"type T U":                          "1:8",
		"type \"T\"":                        "1:6",
		"type T\"d\"":                       "1:10",
		"type T\"d\"{a:A}":                  "1:10",
		"type{a:A}":                         "1:5",
		"type":                              "1:5",
		"type 1":                            "1:6",
		"interface I=A":                     "1:12",
		"interface{a:A}":                    "1:10",
		"interface I extends J":             "1:13",
		"scalar":                            "1:7",
		"scalar @d":                         "1:8",
		"scalar S{a}":                       "1:9",
		"scalar S=A":                        "1:9",
		"scalar S implements A":             "1:10",
		"scalar S S":                        "1:10",
		"union":                             "1:6",
		"union=A":                           "1:6",
		"union U{A}":                        "1:8",
		"union U=A@d":                       "1:10",
		"union U implements A=B":            "1:9",
		"union U=A=B":                       "1:10",
		"enum":                              "1:5",
		"enum{a}":                           "1:5",
		"enum E=A":                          "1:7",
		"enum E{a}@d":                       "1:10",
		"enum E implements A{a}":            "1:8",
		"input":                             "1:6",
		"input{a:A}":                        "1:6",
		"input I=A":                         "1:8",
		"input I{a:A}@d":                    "1:13",
		"input I implements A{a:A}":         "1:9",
		"input I(a:A)":                      "1:8",
		"schema":                            "1:7",
		"schema@d":                          "1:9",
		"schema S{query:Q}":                 "1:8",
		"schema(query:Q)":                   "1:7",
		"schema{query:Q}@d":                 "1:16",
		"schema{query:Q}{mutation:M}":       "1:16",
		"schema implements A{query:Q}":      "1:8",
		"schema:Q":                          "1:7",
		"extend type{a:A}":                  "1:12",
		"extend type T\"d\"":                "1:14",
		"extend type T scalar S":            "1:15",
		"extend type T extend type T{a:A}":  "1:15",
		"extend type T \"d\" type U":        "1:15",
		"extend interface I}":               "1:19",
		"extend scalar S{a}":                "1:16",
		"extend union U|A":                  "1:15",
		"extend enum E=A":                   "1:14",
		"extend input I=A":                  "1:15",
		"extend schema{}":                   "1:15",
		"extend schema@d{}":                 "1:17",
		"extend schema S@d":                 "1:15",
		"extend directive @d on FIELD":      "1:8",
		"extend fragment F on T{a}":         "1:8",
		"extend type T@":                    "1:15",
		"extend type T implements":          "1:25",
		"extend type T{":                    "1:15",
		"extend union U=":                   "1:16",
		"extend type T{a:A}extend":          "1:25",
		"extend type T{a:A}\"d\"extend":     "1:22",
		"extend type T{a:A}\"d\"":           "1:22",
		"type T \"d\" \"e\" type U":         "1:12",
		"type T extend":                     "1:14",
		"type T query{a}":                   "1:8",
		"type T{a:A}query Q{a}":             "1:12",
		"type T{a:A}{a}":                    "1:12",
		"type T{a:A}fragment F on T{a}":     "1:12",
		"union U=A|B fragment F on T{a}":    "1:13",
		"directive @d on FIELD query Q{a}":  "1:23",
		"scalar S mutation{a}":              "1:10",
		"type T implements A query":         "1:21",
		"enum E{a}on":                       "1:10",
		"input I{a:A}}":                     "1:13",
		"schema{query:Q})":                  "1:16",
		"extend type T@d scalar":            "1:23",
		"extend type T@d @":                 "1:18",
		"extend type T@d implements A":      "1:17",
		"extend interface I@d(x:1){a:A}@d":  "1:31",
		"extend schema{query:Q}@d":          "1:23",
		"extend schema@d{query:Q}{query:Q}": "1:25",
		"extend scalar":                     "1:14",
		"extend schema":                     "1:14",
		"extend union U":                    "1:15",
		"extend enum E":                     "1:14",
		"extend input I":                    "1:15",
		"extend interface I":                "1:19",
		"extend scalar S ":                  "1:17",
	} {
		want(t, src, 9, "syntax "+fault)
	}
}

// P10.2: no variable stands in a directive or in a default, wherever they stand; all else of a literal does.
func TestNoVariables(t *testing.T) {
	for _, around := range [][2]string{
		{"schema@d(x:", "){query:Q}"}, {"extend schema@d(x:", ")"}, {"scalar S@d(x:", ")"}, {"extend scalar S@d@d(x:", ")"},
		{"type T@d(x:", "){a:A}"}, {"extend type T implements A@d(x:", ")"}, {"interface I@d(x:", ")"}, {"extend interface I@d(x:", ")"},
		{"union U@d(x:", ")=A"}, {"extend union U@d(x:", ")"}, {"enum E@d(x:", "){a}"}, {"extend enum E@d(x:", ")"}, {"input I@d(x:", "){a:A}"}, {"extend input I@d(x:", ")"},
		{"type T{a:A@d(x:", ")}"}, {"interface I{a:A@d(x:", ")}"}, {"type T{a(b:B@d(x:", ")):A}"}, {"enum E{a@d(x:", ")}"}, {"input I{a:A@d(x:", ")}"}, {"directive @d(a:A@d(x:", "))on FIELD"},
		{"type T{a(b:B=", "):A}"}, {"interface I{a(b:B=", "):A}"}, {"input I{a:A=", "}"}, {"extend input I{a:A=", "}"}, {"directive @d(a:A=", ")on FIELD"},
	} {
		ahead, behind := around[0], around[1]
		want(t, ahead+"$v"+behind, 9, "syntax 1:"+col(len(ahead)+1))
		want(t, ahead+"[1 $v]"+behind, 9, "syntax 1:"+col(len(ahead)+4))
		want(t, ahead+"{y:[{z:$v}]}"+behind, 9, "syntax 1:"+col(len(ahead)+8))
		for _, value := range []string{"1", "-1.5", "\"s\"", "\"\"\"k\"\"\"", "true", "null", "e", "[]", "{}", "[1[e]{y:{z:null}}]"} {
			if got := tell([]byte(ahead+value+behind), 9); strings.HasPrefix(got, "syntax") {
				t.Errorf("%q: %s", ahead+value+behind, got)
			}
			checkSource(t, ahead+value+behind, 9)
		}
	}
}

// Words of the grammar are names wherever a name may stand; but true, false and null are no cases.
func TestWordsOfTheGrammar(t *testing.T) {
	words := "type interface union enum input scalar schema directive extend implements repeatable on query mutation subscription fragment FIELD QUERY true false null _ __type Type"
	for _, w := range strings.Fields(words) {
		n := len(w)
		spot := func(k int) string { return "@1:" + col(k) + " " }
		for _, kind := range kinds[1:] {
			k := len(kind.word) + 2
			want(t, kind.word+" "+w, 9, kind.word+" "+w+spot(k))
			want(t, "extend "+kind.word+" "+w+" @"+w, 9, "extend "+kind.word+" "+w+spot(k+7)+"@"+w+spot(k+n+8))
		}
		want(t, "type T implements "+w+"&"+w, 9, "type T@1:6 &"+w+spot(19)+"&"+w+spot(20+n))
		want(t, "type T implements&"+w+" type U", 9, "type T@1:6 &"+w+spot(19)+"type U"+spot(25+n))
		want(t, "union U="+w+"|"+w, 9, "union U@1:7 |"+w+spot(9)+"|"+w+spot(10+n))
		want(t, "type T{"+w+"("+w+":"+w+"="+"1):"+w+"}", 9, "type T@1:6 { "+w+spot(8)+"( "+w+spot(9+n)+":"+w+" =i1"+spot(11+3*n)+") :"+w+" } ")
		want(t, "input I{"+w+":["+w+"]}", 9, "input I@1:7 { "+w+spot(9)+":"+w+" ]} ")
		want(t, "schema{query:"+w+"}", 9, "schema@1:1 { query@1:8 :"+w+" } ")
		want(t, "directive @"+w+" on FIELD", 9, "directive "+w+spot(12)+"|FIELD"+spot(16+n))
		if w == "true" || w == "false" || w == "null" {
			want(t, "enum E{"+w+"}", 9, "syntax 1:8")
			want(t, "enum E{a \"d\""+w+"}", 9, "syntax 1:13")
			want(t, "extend enum E{a@d "+w, 9, "syntax 1:19")
		} else {
			want(t, "enum E{"+w+"}", 9, "enum E@1:6 { "+w+spot(8)+"} ")
			want(t, "enum E{a \"d\""+w+"}", 9, "enum E@1:6 { a@1:8 s\"d\" "+w+spot(13)+"} ")
		}
	}
	want(t, "enum E{True FALSE nul}", 9, "enum E@1:6 { True@1:8 FALSE@1:13 nul@1:19 } ")
}

// Interfaces by &, with and without the leading one.
func TestIfaces(t *testing.T) {
	for _, word := range []string{"type", "interface", "extend type", "extend interface"} {
		n := len(word)
		begin := word + " T implements"
		spot := func(k int) string { return "@1:" + col(n+13+k) + " " }
		known := word + " T@1:" + col(n+2) + " "
		for src, out := range map[string]string{
			" A":                     "&A" + spot(2),
			"&A":                     "&A" + spot(2),
			" A&B":                   "&A" + spot(2) + "&B" + spot(4),
			"&A&B&A":                 "&A" + spot(2) + "&B" + spot(4) + "&A" + spot(6),
			" implements":            "&implements" + spot(2),
			" A&implements":          "&A" + spot(2) + "&implements" + spot(4),
			"&,A,&,B,":               "&A" + spot(3) + "&B" + spot(7),
			" A@d":                   "&A" + spot(2) + "@d" + spot(3),
			" A{a:A}":                "&A" + spot(2) + "{ a" + spot(4) + ":A } ",
			"&A@d{a:A}":              "&A" + spot(2) + "@d" + spot(3) + "{ a" + spot(6) + ":A } ",
			" A scalar S":            "&A" + spot(2) + "scalar S" + spot(11),
			" A&scalar scalar S":     "&A" + spot(2) + "&scalar" + spot(4) + "scalar S" + spot(18),
			" A\"d\"scalar S":        "&A" + spot(2) + "s\"d\" scalar S" + spot(13),
			" A&B extend scalar S@d": "&A" + spot(2) + "&B" + spot(4) + "extend scalar S" + spot(20) + "@d" + spot(21),
		} {
			want(t, begin+src, 9, known+out)
		}
		for src, fault := range map[string]int{
			"": 1, "&": 2, " {a:A}": 2, "{a:A}": 1, "@d": 1, "&@d": 2, "&&A": 2, " A&": 4, " A&&B": 4, " A&{a:A}": 4, " A B": 4, ",A,B": 4, " A|B": 3, "|A": 1, " A implements B": 4, " A=B": 3, " A!": 3, "[A]": 1, " 1": 2, "\"A\"": 1, "&1": 2, " A&\"B\"": 4, " A(b:B)": 3, " A:B": 3, " A&?": 4, "?": 1,
		} {
			want(t, begin+src, 9, "syntax 1:"+col(n+13+fault))
		}
	}
}

// Members by |, with and without the leading one.
func TestMembers(t *testing.T) {
	for _, word := range []string{"union", "extend union"} {
		n := len(word)
		begin := word + " U"
		spot := func(k int) string { return "@1:" + col(n+2+k) + " " }
		known := word + " U@1:" + col(n+2) + " "
		for src, out := range map[string]string{
			"=A":                  "|A" + spot(2),
			"=|A":                 "|A" + spot(3),
			"=A|B":                "|A" + spot(2) + "|B" + spot(4),
			"=|A|B|A":             "|A" + spot(3) + "|B" + spot(5) + "|A" + spot(7),
			"@d=A":                "@d" + spot(1) + "|A" + spot(4),
			" = , | A,|,B":        "|A" + spot(8) + "|B" + spot(12),
			"=A|B type C":         "|A" + spot(2) + "|B" + spot(4) + "type C" + spot(11),
			"=union union V":      "|union" + spot(2) + "union V" + spot(14),
			"=A\"d\"union V":      "|A" + spot(2) + "s\"d\" union V" + spot(12),
			"=A extend type T@d":  "|A" + spot(2) + "extend type T" + spot(16) + "@d" + spot(17),
			"=A|extend extend":    "",
			"=A union V=B|C type": "",
		} {
			if out == "" {
				want(t, begin+src, 9, "syntax 1:"+col(n+3+len(src)))
				continue
			}
			want(t, begin+src, 9, known+out)
		}
		for src, fault := range map[string]int{
			"=": 2, "=|": 3, "=||A": 3, "=A|": 4, "=A||B": 4, "=A B": 4, "=A,B": 4, "=A&B": 3, "=&A": 2, "|A": 1, "={A}": 2, "=[A]": 2, "=(A)": 2, "=A|1": 4, "=\"A\"": 2, "=A|\"B\"": 4, "=A!": 3, "=A@d": 3, "=|@d": 3, "=A|@d": 4, "=A=B": 3, "==A": 2, "=$a": 2, "=A{a}": 3, "=A|?": 4, "=?": 2, "@d=": 4,
		} {
			want(t, begin+src, 9, "syntax 1:"+col(n+2+fault))
		}
	}
}

// Directives' definitions.
func TestDirectives(t *testing.T) {
	for src, out := range map[string]string{
		"directive @d on FIELD":                       "directive d@1:12 |FIELD@1:17 ",
		"directive@d on|FIELD":                        "directive d@1:11 |FIELD@1:16 ",
		"directive @ d on FIELD|FIELD":                "directive d@1:13 |FIELD@1:18 |FIELD@1:24 ",
		"directive @d repeatable on FIELD":            "directive d@1:12 repeatable |FIELD@1:28 ",
		"directive @repeatable on FIELD":              "directive repeatable@1:12 |FIELD@1:26 ",
		"directive @repeatable repeatable on FIELD":   "directive repeatable@1:12 repeatable |FIELD@1:37 ",
		"directive @on on FIELD":                      "directive on@1:12 |FIELD@1:18 ",
		"directive @d(a:A)on FIELD":                   "directive d@1:12 ( a@1:14 :A ) |FIELD@1:21 ",
		"directive @d(a:A b:B=1@e)repeatable on ENUM": "directive d@1:12 ( a@1:14 :A b@1:18 :B =i1@1:22 @e@1:23 ) repeatable |ENUM@1:40 ",
		"\"n\"directive @d on FIELD":                  "s\"n\" directive d@1:15 |FIELD@1:20 ",
		"\"\"\"n\"\"\"directive @d on FIELD":          "k\"n\" directive d@1:19 |FIELD@1:24 ",
		"directive @d on FIELD type T":                "directive d@1:12 |FIELD@1:17 type T@1:28 ",
		"directive @d on FIELD\"n\"type T":            "directive d@1:12 |FIELD@1:17 s\"n\" type T@1:30 ",
		"directive @d on FIELD directive @e on QUERY": "directive d@1:12 |FIELD@1:17 directive e@1:34 |QUERY@1:39 ",
		"directive @d on FIELD extend type T@d":       "directive d@1:12 |FIELD@1:17 extend type T@1:35 @d@1:36 ",
	} {
		want(t, src, 9, out)
	}
	for src, fault := range map[string]int{
		"directive": 10, "directive d on FIELD": 11, "directive @": 12, "directive @1": 12, "directive @@d": 12, "directive @\"d\"": 12, "directive @d": 13, "directive @d FIELD": 14, "directive @d ON FIELD": 14, "directive @d on": 16, "directive @d on|": 17, "directive @d on||FIELD": 17, "directive @d on FIELD|": 23, "directive @d on FIELD||QUERY": 23, "directive @d on FIELD QUERY": 23, "directive @d on FIELD,QUERY": 23, "directive @d on FIELD&QUERY": 22, "directive @d on field": 17, "directive @d on Field": 17, "directive @d on FIELD|FIELDS": 23, "directive @d on FIELD|on": 23, "directive @d on FIELD|type T": 23,
		"directive @d on on FIELD": 17, "directive @d repeatable": 24, "directive @d repeatable FIELD": 25, "directive @d repeatable repeatable on FIELD": 25, "directive @d on repeatable FIELD": 17, "directive @d on FIELD repeatable": 23, "directive @d Repeatable on FIELD": 14, "directive @d repeatable(a:A)on FIELD": 24, "directive @d()on FIELD": 14, "directive @d(a)on FIELD": 15, "directive @d(a:A on FIELD": 21, "directive @d(a:A}on FIELD": 17, "directive @d(a:A=$v)on FIELD": 18, "directive @d(a:A@e(x:$v))on FIELD": 22, "directive @d(a:1)on FIELD": 16, "directive @d{a:A}on FIELD": 13, "directive @d(a:A)(b:B)on FIELD": 18, "directive @d(a:A)": 18, "directive @d@e on FIELD": 13, "directive @d on FIELD@e": 22, "directive @d on FIELD{": 22, "directive @d on{FIELD}": 16, "directive @d on(FIELD)": 16, "directive @d on 1": 17, "directive @d on \"FIELD\"": 17, "directive @d=A": 13, "directive @d implements A": 14, "directive @d on ?": 17, "directive \"n\"@d on FIELD": 11, "directive(a:A)@d on FIELD": 10,
	} {
		want(t, src, 9, "syntax 1:"+col(fault))
	}
}

// All places of directives, alone and all together, and words that are none.
func TestPlaces(t *testing.T) {
	all := strings.Fields(places)
	if len(all) != 19 {
		t.Fatal("places:", len(all))
	}
	for _, place := range all {
		want(t, "directive @d on "+place, 9, "directive d@1:12 |"+place+"@1:17 ")
		want(t, "directive @d on|QUERY|"+place, 9, "directive d@1:12 |QUERY@1:17 |"+place+"@1:23 ")
		for _, wrong := range []string{strings.ToLower(place), place[1:], place[:len(place)-1], place + "S", "_" + place, place + "_", strings.ReplaceAll(place, "_", "")} {
			if !strings.Contains(" "+places+" ", " "+wrong+" ") {
				want(t, "directive @d on "+wrong, 9, "syntax 1:17")
				want(t, "directive @d on QUERY|"+wrong, 9, "syntax 1:23")
			}
		}
	}
	for _, wrong := range []string{"FRAGMENT", "VARIABLE", "INPUT", "ARGUMENT", "TYPE", "DIRECTIVE", "INPUT_FIELD", "DIRECTIVE_DEFINITION", "ENUM_VALUES", "true", "on"} {
		want(t, "directive @d on "+wrong, 9, "syntax 1:17")
	}
	defs, fault := sdl.Parse([]byte("directive @d on "+strings.Join(all, "|")), 9)
	if fault.Kind != api.OK || len(defs) != 1 || len(defs[0].Places) != 19 {
		t.Fatal(defs, fault)
	}
	for i, place := range defs[0].Places {
		same(t, "place", place.Name, all[i])
	}
}
