package shape_test

import (
	"slices"
	"strings"
	"testing"
)

// spots are sources with one spot of each place, at which a text is laid in the stead of a #.
var spots = []struct{ place, src string }{
	{"SCHEMA", "schema#{query:Query}"}, {"SCHEMA", "schema{query:Query}extend schema#"}, {"SCHEMA", "extend schema#schema{query:Query}"},
	{"SCALAR", "scalar T#"}, {"SCALAR", "scalar T extend scalar T#"},
	{"OBJECT", "type T#{a:Int}"}, {"OBJECT", "extend type T#type T{a:Int}"},
	{"INTERFACE", "interface T#{a:Int}"}, {"INTERFACE", "interface T{a:Int}extend interface T#"},
	{"UNION", "union T#=Query"}, {"UNION", "union T=Query extend union T#"},
	{"ENUM", "enum T#{A}"}, {"ENUM", "enum T{A}extend enum T#"},
	{"INPUT_OBJECT", "input T#{a:Int}"}, {"INPUT_OBJECT", "input T{a:Int}extend input T#"},
	{"FIELD_DEFINITION", "type T{a:Int#}"}, {"FIELD_DEFINITION", "interface T{a:Int b:Int#}"}, {"FIELD_DEFINITION", "type T{a:Int}extend type T{b:Int#}"}, {"FIELD_DEFINITION", "type T{a:Int a:Int#}"},
	{"ARGUMENT_DEFINITION", "type T{a(x:Int#):Int}"}, {"ARGUMENT_DEFINITION", "interface T{a(y:Int x:Int=1#):Int}"}, {"ARGUMENT_DEFINITION", "directive@T(x:Int#)on ENUM"}, {"ARGUMENT_DEFINITION", "directive@T(y:Int x:Int=1#)on ENUM"}, {"ARGUMENT_DEFINITION", "type T{a:Int}extend type T{b(x:Int#):Int}"},
	{"ENUM_VALUE", "enum T{A#}"}, {"ENUM_VALUE", "enum T{A B#}"}, {"ENUM_VALUE", "enum T{A}extend enum T{B#}"},
	{"INPUT_FIELD_DEFINITION", "input T{a:Int#}"}, {"INPUT_FIELD_DEFINITION", "input T{a:Int b:Int=1#}"}, {"INPUT_FIELD_DEFINITION", "input T{a:Int}extend input T{b:Int#}"},
}

const (
	sysPlaces = "SCHEMA SCALAR OBJECT FIELD_DEFINITION ARGUMENT_DEFINITION INTERFACE UNION ENUM ENUM_VALUE INPUT_OBJECT INPUT_FIELD_DEFINITION"
	allPlaces = sysPlaces + " QUERY MUTATION SUBSCRIPTION FIELD FRAGMENT_DEFINITION FRAGMENT_SPREAD INLINE_FRAGMENT VARIABLE_DEFINITION"
)

// atSpots lays a text at each spot behind what stands ahead, and holds Uses against the faults.
func atSpots(t *testing.T, ahead, text, want string) {
	t.Helper()
	for _, s := range spots {
		checkRows(t, "Uses", []row{{ahead + strings.ReplaceAll(s.src, "#", text+" "), want}})
	}
}

// P14.2: at each spot all faults of uses, and none of what is right.
func TestEachSpot(t *testing.T) {
	everywhere := " on " + strings.ReplaceAll(sysPlaces, " ", "|")
	atSpots(t, "directive@d"+everywhere+" ", "@d", "")
	atSpots(t, "", "①@d", "DirNone①")
	atSpots(t, "directive@d"+everywhere+" ", "@d①@D②@d_", "DirNone①; DirNone②")
	atSpots(t, "directive@d on QUERY ", "①@d", "DirPlace①")
	atSpots(t, "directive@d"+everywhere+" ", "①@d②@d", "DirSame①②")
	atSpots(t, "directive@d repeatable"+everywhere+" ", "@d@d@d", "")
	atSpots(t, "directive@d"+everywhere+" ", "@d(①x:1)", "ArgNone①")
	atSpots(t, "directive@d(x:Int)"+everywhere+" ", "@d(①x:1 ②x:2)", "ArgSame①②")
	atSpots(t, "directive@d(x:Int!)"+everywhere+" ", "①@d", "ArgMissing①")
	atSpots(t, "directive@d(x:Int!)"+everywhere+" ", `@d(x:①"s")`, "Value①")
	atSpots(t, "directive@d(x:N)"+everywhere+" input N{a:Int!}", `@d(x:②{①b:1})`, "InFieldNone①; InFieldMissing②")
	atSpots(t, "directive@d(x:N)"+everywhere+" input N{a:Int!}", `@d(x:{①a:1 ②a:2})`, "InFieldSame①②")
}

// P14.2: each directive's places against each spot's.
func TestEachPlace(t *testing.T) {
	for _, place := range strings.Fields(allPlaces) {
		for _, s := range spots {
			want := "DirPlace①"
			if s.place == place {
				want = ""
			}
			others := strings.Fields(allPlaces)
			others = slices.DeleteFunc(others, func(name string) bool { return name == s.place })
			checkRows(t, "Uses", []row{
				{"directive@d on " + place + " " + strings.ReplaceAll(s.src, "#", "①@d "), want},
				{"directive@d on " + strings.Join(others, "|") + " " + strings.ReplaceAll(s.src, "#", "①@d "), "DirPlace①"},
			})
		}
	}
}

// P14.2: the built-in directives have their own places and arguments.
func TestBuiltInUses(t *testing.T) {
	checkRows(t, "Uses", []row{
		{"type A{a:Int@deprecated b(x:Int①@deprecated):Int}", "DirPlace①"},
		{"enum A①@deprecated{A@deprecated B@deprecated(reason:null)C@deprecated(reason:\"r\")D@deprecated(reason:②1)E@deprecated(③x:1)}", "ArgNone③; Value②; DirPlace①"},
		{"scalar A@specifiedBy(url:\"u\")scalar B①@specifiedBy scalar C@specifiedBy(url:②null)type D③@specifiedBy(url:\"u\")scalar E④@specifiedBy(url:\"u\")⑤@specifiedBy(url:\"u\")", "ArgMissing①; Value②; DirPlace③; DirSame④⑤"},
		{"type A①@skip(if:true)②@include(if:③1)④@skip", "ArgMissing④; Value③; DirPlace①; DirPlace②; DirPlace④; DirSame①④"},
		{"directive@deprecated(x:Int!)repeatable on OBJECT type A①@deprecated{a:Int②@deprecated③@deprecated}", "DirPlace①; DirSame②③"},
	})
}

// P14.2: several uses of one directive at one spot, which an extension may bring, ahead of the definition too; at two spots they are no fault.
func TestDirSame(t *testing.T) {
	const d = "directive@d on OBJECT|FIELD_DEFINITION|SCHEMA directive@e on OBJECT directive@r repeatable on OBJECT "
	checkRows(t, "Uses", []row{
		{d + "type A@d{a:Int@d b:Int@d}type B@d", ""},
		{d + "type A①@d@e②@d", "DirSame①②"},
		{d + "type A①@d③@e②@d④@e@r@r", "DirSame①②; DirSame③④"},
		{d + "type A①@d②@d③@d", "DirSame①②③"},
		{d + "type A①@d extend type A②@d extend type A③@d", "DirSame①②③"},
		{d + "extend type A①@d\ntype A②@d", "DirSame①②"},
		{d + "extend type A①@d\nextend type A②@d type A③@d@e", "DirSame①②③"},
		{d + "extend schema①@d\nschema②@d{query:A}", "DirSame①②"},
		{d + "type A{a:Int@d}extend type A{a:Int@d}", ""},
		{d + "type A①@x②@x", "DirNone①; DirNone②"},
		{d + "enum A①@d②@d", "DirPlace①; DirPlace②; DirSame①②"},
		{"directive@d repeatable on OBJECT directive@d on OBJECT type A@d@d directive@e on OBJECT directive@e repeatable on OBJECT type B①@e②@e", "DirSame①②"},
		{d + "type A@r@r extend type A@r", ""},
		{d + "type A@d type A@d@d extend enum A@d@d extend type B@d@d type Int@d@d", ""},
		{d + "extend schema@d@d", ""},
	})
}

// P14.2: arguments of uses: such as there are none, several of one name, missing ones.
func TestUsesArgs(t *testing.T) {
	const d = "directive@d(a:Int b:Int=1 c:[Int])on OBJECT directive@q(a:Int! b:[Int!]! c:Int!=1 d:Int)on OBJECT directive@n on OBJECT "
	checkRows(t, "Uses", []row{
		{d + "type A@d(a:1)type B@d(c:1 b:2 a:3)type C@d type D@n", ""},
		{d + "type A@d(①x:1 a:1 ②A:2)", "ArgNone①; ArgNone②"},
		{d + "type A@n(①a:1)", "ArgNone①"},
		{d + "type A①@x(a:1)", "DirNone①"},
		{d + "type A@d(①a:1 ②a:2)", "ArgSame①②"},
		{d + "type A@d(①a:1 ③b:1 ②a:2 c:1 ④b:1 ⑤b:1)", "ArgSame①②; ArgSame③④⑤"},
		{d + "type A@d(①x:1 ②x:1)", "ArgNone①; ArgNone②; ArgSame①②"},
		{d + "type A①@x(②a:1 ③a:1)", "ArgSame②③; DirNone①"},
		{d + "type A@q(a:1 b:1)type B@q(b:[]d:1 c:1 a:1)", ""},
		{d + "type A①@q", "ArgMissing①"}, {d + "type A①@q(a:1)", "ArgMissing①"}, {d + "type A①@q(b:1 c:1 d:1)", "ArgMissing①"},
		{d + "type A①@q(②a:1 ③a:1)", "ArgSame②③; ArgMissing①"},
		{d + "type A①@q(②x:1 ③y:1)", "ArgNone②; ArgNone③; ArgMissing①"},
		{d + "type A①@q(②B:1 a:1)", "ArgNone②; ArgMissing①"},
		{d + "type A@q(a:①null b:1)", "Value①"},
		{d + "type A①@q②@q", "ArgMissing①; ArgMissing②; DirSame①②"},
		{d + "enum A①@q", "ArgMissing①; DirPlace①"},
		{"directive@d(a:Int a:Int!)on OBJECT type A①@d type B@d(a:1)", "ArgMissing①"},
		{"directive@d(a:Int!a:Int)on OBJECT type A①@d type B@d(a:1)type C@d(a:②null)", "ArgMissing①; Value②"},
		{"directive@d(a:Int!a:Int! b:Int!)on OBJECT type A①@d(a:1)type B@d(a:1 b:2)", "ArgMissing①"},
		{"directive@d(a:Int!a:Int! b:Int!)on OBJECT type A①@d(②a:1 ③a:1)", "ArgSame②③; ArgMissing①"},
		{"directive@d(a:X!)on OBJECT type A①@d type B@d(a:null)", "ArgMissing①"},
		{"directive@d on OBJECT directive@d(a:Int!)on OBJECT type A@d", ""},
		{"directive@d(a:Int!)on OBJECT directive@d on OBJECT type A①@d", "ArgMissing①"},
	})
}

// P14.2: the values of arguments of uses, by the type of the directive's first argument of that name; where there is none, nothing is asked but of objects.
func TestUsesValues(t *testing.T) {
	const d = "enum E{A B}scalar S input N{a:Int! n:N e:E=A}type O{a:Int}directive@d(i:Int l:[Int!]e:E s:S n:N o:O x:X f:Float! =1)repeatable on SCALAR "
	checkRows(t, "Uses", []row{
		{d + `scalar T@d(i:1)@d(i:null)@d(i:①"1")@d(i:②2147483648)@d(i:③1.0)@d(i:④A)@d(i:⑤[1])`, "Value①; Value②; Value③; Value④; Value⑤"},
		{d + `scalar T@d(l:1)@d(l:[1 2])@d(l:[1 ①null ②"s"])@d(l:③{})@d(l:null)`, "Value①; Value②; Value③"},
		{d + `scalar T@d(e:A)@d(e:①C)@d(e:②"A")@d(e:③1)`, "Value①; Value②; Value③"},
		{d + `scalar T@d(s:[1 {a:"s"}])@d(s:①1e999)@d(s:{②a:1 ③a:④1e999})`, "Value①; Value④; InFieldSame②③"},
		{d + `scalar T@d(n:{a:1})@d(n:①{})@d(n:{a:1 n:②{③b:1}})@d(n:{④a:1 ⑤a:⑥"s" e:⑦C})@d(n:⑧1)`, "Value⑥; Value⑦; Value⑧; InFieldNone③; InFieldSame④⑤; InFieldMissing①; InFieldMissing②"},
		{d + `scalar T@d(o:1)@d(o:{b:1})@d(o:{①b:1 ②b:1})@d(x:[A 1e999 "s"])@d(x:[{③b:1 ④b:1}])`, "InFieldSame①②; InFieldSame③④"},
		{d + `scalar T@d(f:1)@d(f:①null)@d(f:②"s")`, "Value①; Value②"},
		{d + `scalar T①@x(a:{②a:1 ③a:2} b:1e999 c:[A "s" {④d:1 ⑤d:1}])@d(⑥z:{⑦a:1 ⑧a:2})`, "ArgNone⑥; InFieldSame②③; InFieldSame④⑤; InFieldSame⑦⑧; DirNone①"},
		{d + `type T①@d(i:②"s")`, "Value②; DirPlace①"},
		{d + `scalar T@d(①i:1 ②i:③"s")`, "ArgSame①②; Value③"},
		{`directive@d(a:Int a:String)on SCALAR scalar A@d(a:1)scalar B@d(a:①"s")`, "Value①"},
		{`directive@d(a:Int)on SCALAR directive@d(a:String)on SCALAR scalar A@d(a:1)scalar B@d(a:①"s")`, "Value①"},
		{`scalar T①@d(a:1)enum E{A}`, "DirNone①"},
	})
}

// P14.2: the defaults of all kinds of inputs.
func TestDefaults(t *testing.T) {
	const d = "enum E{A B}scalar S input N{a:Int! n:N e:E=A}type O{a:Int}"
	checkRows(t, "Uses", []row{
		{d + `type T{a(x:Int=1 y:Int=①"s"):Int}`, "Value①"}, {d + `interface T{a(x:Int=1 y:Int!=①null):Int}`, "Value①"}, {d + `directive@d(x:E=A y:E=①C)on ENUM`, "Value①"}, {d + `input T{a:[Int!]=[1] b:[Int!]=[①null]}`, "Value①"},
		{d + `input T{a:N={a:1} b:N=①{} c:N={a:1 ②x:1} d:N={③a:1 ④a:1}}`, "InFieldNone②; InFieldSame③④; InFieldMissing①"},
		{d + `type T{a(x:X={①a:1 ②a:1} y:O={③a:1 ④a:"s"} z:X!=null):Int}`, "InFieldSame①②; InFieldSame③④"},
		{d + `extend type T{a(x:Int=①A):Int}type T`, "Value①"}, {d + `input T extend input T{x:Int=①A}`, "Value①"},
		{d + `type T{a(x:Int=①A x:Int=②B):Int a(x:Int=③A):Int}`, "Value①; Value②; Value③"},
		{d + `input T{a:Int=①A a:E=A a:E=②1}`, "Value①; Value②"},
		{d + `input T{t:T={t:{t:①1}} u:T={u:{②v:1}}}`, "Value①; InFieldNone②"},
		{d + `input R{r:R={}}`, ""},
		{d + `type Int{a(x:Int=A):Int}type T type T{a(x:Int=A):Int}extend type X{a(x:Int=A):Int}directive@d on ENUM directive@d(x:Int=A)on ENUM directive@skip(x:Int=A)on ENUM`, ""},
		{d + `input T{a:S=[1 A {b:"s"}] b:S=①1e999 c:[S]=[②1e999]}`, "Value①; Value②"},
		{d + `type T{a(x:[[Int]]=1 y:[[Int]]=[1 2 [3]] z:[[Int]]=[[1]①A [②[2]]]):Int}`, "Value①; Value②"},
	})
}
