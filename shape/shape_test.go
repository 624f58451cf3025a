package shape_test

import (
	"strings"
	"testing"

	"pergola/api"
	"pergola/shape"
	"pergola/typesys"
)

// P14.1 to P14.3: the chapter's examples, with their places as the chapter writes them.
func TestChapter(t *testing.T) {
	for _, r := range []row{
		{"type Query{a:Int}", ""},
		{"type T{a:Int}", "NoQuery"},
		{"type Query{a:Int}type Query{b:Int}", "TypeTwice 1:6 1:23"},
		{"extend type Query{b:Nope}type Query{a:Int}", "TypeNone 1:19"},
		{"type Query{a:Int}extend enum Query{A}extend type X@d", "ExtendNone 1:50; ExtendKind 1:30"},
		{"scalar Int type Query{a:Int}directive@skip on FIELD", "BuiltIn 1:8; BuiltIn 1:39"},
		{"type Query{a:Int}type Int{a:Int}extend enum Int{A}", "BuiltIn 1:23; BuiltIn 1:45"},
		{"schema{query:X mutation:X}", "RootKind 1:8; RootKind 1:16; RootSame 1:8 1:16"},
		{"schema{query:Q mutation:Q query:Q}type Q{a:Int}", "RootTwice 1:8 1:27; RootSame 1:8 1:16 1:27"},
		{"interface Query{a:Int}", "NoQuery"},
		{"schema{query:I}interface I{a:Int}", "RootKind 1:8"},
		{"type Query{a:Int a:T b(x:Int x:Q):Int}type T enum E{A A __B}", "Name 1:57; Empty 1:44; PartTwice 1:12 1:18; PartTwice 1:53 1:55; InputTwice 1:24 1:30; TypeNone 1:30"},
		{"type Query{a(x:Query):I}input I{q:Int}", "Output 1:12; Input 1:14"},
		{"interface I{a:Int b(x:Int):Int}type Query implements I{a:String b(x:Int! y:Int!):Int}", "ImplType 1:56 1:13; ImplArgType 1:67 1:21; ImplExtra 1:74 1:19"},
		{"interface I implements J{a:Int}interface J implements I{a:Int}type Query implements I{b:Int}", "IfaceMore 1:24; IfaceMore 1:55; IfaceMore 1:85; ImplField 1:85 1:26"},
		{"type Query implements X&Query{a:Int}union U=Query|Int|Query", "Iface 1:23; Iface 1:25; IfaceSelf 1:25; Member 1:51; MemberTwice 1:45 1:55"},
		{"type Query{a(x:A):Int}input A{b:B!}input B{a:A! c:[B!]! d:B}", "InputRing 1:29; InputRing 1:42"},
		{"type Query{a:Int}directive@d(x:S@e)on SCALAR directive@e on ARGUMENT_DEFINITION scalar S@d", "DirRing 1:28"},
		{`type Query@a{a(x:Int="s"):Int@deprecated@deprecated(reason:1 reason:null x:1)}`, "ArgNone 1:74; ArgSame 1:53 1:62; Value 1:22; Value 1:60; DirNone 1:11; DirSame 1:30 1:41"},
	} {
		if got := told(shape.Check(read(t, r.src))); got != r.want {
			t.Errorf("%q:\ngot  %s\nwant %s", r.src, got, r.want)
		}
		holdAll(t, r.src)
	}
}

// P14.2: of a nil type system, which is that of no definitions, Roots answers ErrNoQuery, and all others nothing.
func TestNil(t *testing.T) {
	for _, types := range []*typesys.Types{nil, {}, typesys.Build(nil), typesys.Build([]api.SysDef{})} {
		for _, c := range calls {
			want := ""
			if c.name == "Roots" {
				want = "NoQuery"
			}
			if got := told(c.call(types)); got != want {
				t.Errorf("%s: got %q, want %q", c.name, got, want)
			}
		}
	}
	for _, defs := range [][]api.SysDef{nil, {}} {
		if got := told(shape.Check(defs)); got != "NoQuery" {
			t.Error("Check:", got)
		}
		if got := told(shape.Assembly(defs)); got != "" {
			t.Error("Assembly:", got)
		}
	}
}

// soundSource is a sound type system in which each kind of thing stands, with all that may look like a fault.
const soundSource = `
"the schema" schema @on(x: [1, 2]) { query: Q mutation: M }
extend schema @many @many { subscription: Sub }
extend type Q implements I & J @many @deep(x: {a: 1, b: {a: 2}}) { i(x: Int! = 1, z: In = {a: 3, list: [{a: 4}, null]}): Q! more: [[Q!]!]! }
type Q { _: Int _a_: S j: [Q!]! e(e: E = B, es: [E!]! = A): E u: U t: __Type k: __TypeKind }
type M { q: Q @deprecated s: Sub @deprecated(reason: null) } type Sub implements J { j: [Q] }
interface I implements J { i(x: Int!): I j: [J] } interface J { j: [J] }
interface K { k: K } interface L implements K { k: L! }
union U @many = | Q | M extend union U = Sub
scalar S @specifiedBy(url: "u") scalar S_ extend scalar S @many @many
enum E { A B @deprecated C @many @many(y: C) } extend enum E { _D }
input In @deep { a: Int! b: In list: [In] = [{a: 1}] need: Other! = {} self: [In!]! = [] s: S = {x: [1, y]} }
input Other { in: In need: [Other!]! = [] e: E! = A } extend input Other @many { n: Int @many @many }
directive @on(x: [Int!]!, y: E, z: Int! = 1) on SCHEMA
enum F { A C } directive @many(y: F = A) repeatable on SCHEMA | SCALAR | OBJECT | UNION | ENUM_VALUE | INPUT_OBJECT | INPUT_FIELD_DEFINITION | FIELD_DEFINITION
directive @deep(x: Deep @leaf) on OBJECT | INPUT_OBJECT | FIELD_DEFINITION
directive @leaf on ARGUMENT_DEFINITION input Deep { a: Int b: Deep }
type skip { skip: Int } directive @Int(Int: Int) on FIELD directive @Q on OBJECT`

// P14.3: a sound type system has no fault.
func TestSoundSource(t *testing.T) {
	for i, faults := range holdAll(t, soundSource) {
		if len(faults) > 0 {
			t.Error(callName(i), told(faults))
		}
	}
}

// P14.3: what stands in built-in types and directives is no fault, and neither is their use.
func TestBuiltInUsed(t *testing.T) {
	src := "type Query{"
	for _, name := range strings.Fields(builtInTypes) {
		src += "f" + name + ":" + name + " "
	}
	src += "a(x:Int y:Float z:String b:Boolean i:ID k:__TypeKind l:[__DirectiveLocation!]=[FIELD]):Int@deprecated}"
	for i, faults := range holdAll(t, src) {
		if len(faults) > 0 {
			t.Error(callName(i), told(faults))
		}
	}
}

// What doesn't count is looked at by Assembly alone: second definitions, those of built-in names, extensions of other kinds.
func TestPassedOver(t *testing.T) {
	const wrong = "implements X&X&A@nope@nope(a:1 a:{b:1 b:2}){__a:Nope __a(x:Nope x:Nope):Nope b:In}"
	checkRows(t, "Check", []row{
		{"type Query{a:Int}input In{a:Int}type ①A{a:Int}type ②A " + wrong, "TypeTwice①②"},
		{"type Query{a:Int}input In{a:Int}type ①A{a:Int}interface ②A " + wrong, "TypeTwice①②"},
		{"type Query{a:Int}input In{a:Int}extend interface ①A " + wrong + "type A{a:Int}", "ExtendKind①"},
		{"type Query{a:Int}input In{a:Int}extend type ①A " + wrong, "ExtendNone①"},
		{"type Query{a:Int}type ①__Type " + wrong, "BuiltIn①"},
		{"type Query{a:Int}extend type ①__Type " + wrong, "BuiltIn①"},
		{"type Query{a:Int}type ①Int " + wrong, "BuiltIn①"},
		{"type Query{a:Int}extend scalar ①Int@nope", "BuiltIn①"},
		{"type Query{a:Int}directive@①d on FIELD directive@②d(__a:Nope __a:Query=1@d@d(a:1 a:2))on FIELD", "DirTwice①②"},
		{"type Query{a:Int}directive@①skip(__a:Nope __a:Query=1@d@d(a:1 a:2))on FIELD", "BuiltIn①"},
		{"①schema{query:Query}②schema@nope@nope{query:X query:X mutation:Query}type Query{a:Int}", "SchemaTwice①②"},
		{"type Query{a:Int}extend ①schema@nope{query:X mutation:Query}", "ExtendNone①"},
	})
}
