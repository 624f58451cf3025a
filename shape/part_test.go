package shape_test

import "testing"

// P14.2: names that begin with two underscores, at each place at which a thing has a name.
func TestNames(t *testing.T) {
	checkRows(t, "Names", []row{
		{"scalar ①__A", "Name①"}, {"type ①__A", "Name①"}, {"interface ①__A", "Name①"}, {"union ①__A", "Name①"}, {"enum ①__A", "Name①"}, {"input ①__A", "Name①"},
		{"type ①__", "Name①"}, {"type ①___", "Name①"}, {"type ①____a", "Name①"}, {"type _", ""}, {"type _A", ""}, {"type _A__", ""}, {"type A__a", ""}, {"type _1_", ""},
		{"type A{①__a:Int}", "Name①"}, {"interface A{①__a:Int}", "Name①"}, {"type A{_a:Int a__:Int}", ""},
		{"type A{a(①__x:Int):Int}", "Name①"}, {"interface A{a(①__x:Int y:Int ②__z:Int):Int}", "Name①; Name②"}, {"type A{a(_x:Int x__:Int):Int}", ""},
		{"enum A{B ①__B _B B__}", "Name①"},
		{"input A{a:Int ①__a:Int _a:Int}", "Name①"},
		{"directive@①__d on ENUM", "Name①"}, {"directive@_d on ENUM", ""}, {"directive@d(①__x:Int _x:Int)on ENUM", "Name①"},
		{"type ①__A{②__a(③__x:Int):Int ④__a:Int}extend type __A{⑤__b:Int}", "Name①; Name②; Name③; Name④; Name⑤"},
		{"extend enum A{①__B}\nenum A{②__B}", "Name①; Name②"},
		{"type A{a(x:__X=__Y@__d(__x:{__y:__Z})):__T}union B@__d=__C|__D schema@__d{query:__Q}type C implements __I", ""},
		{"type __Type{__a:Int}extend type __Schema{__a:Int}directive@skip(__a:Int)on ENUM", ""},
		{"extend type __A{__a:Int}", ""},
		{"type A type A{__a:Int}type ①__A type __A extend enum __A{__B}", "Name①"},
		{"type Query{①__typename:Int ②__schema:Int ③__type:Int}", "Name①; Name②; Name③"},
	})
}

// P14.2: types without parts, of their own and of extensions.
func TestEmpty(t *testing.T) {
	checkRows(t, "Parts", []row{
		{"scalar A", ""},
		{"type ①A", "Empty①"}, {"interface ①A", "Empty①"}, {"union ①A", "Empty①"}, {"enum ①A", "Empty①"}, {"input ①A", "Empty①"},
		{"type A{a:Int}", ""}, {"interface A{a:Int}", ""}, {"union A=B", ""}, {"enum A{B}", ""}, {"input A{a:Int}", ""},
		{"type ①A implements B@d", "Empty①"}, {"interface ①A implements B@d", "Empty①"}, {"union ①A@d", "Empty①"}, {"enum ①A@d", "Empty①"}, {"input ①A@d", "Empty①"},
		{"type A extend type A{a:Int}", ""}, {"extend interface A{a:Int}interface A", ""}, {"union A extend union A=B", ""}, {"extend enum A{B}enum A", ""}, {"input A extend input A{a:Int}", ""},
		{"type ①A extend type A@d extend type A implements B", "Empty①"},
		{"type ①A extend interface A{a:Int}", "Empty①"}, {"interface ①A extend type A{a:Int}", "Empty①"}, {"input ①A extend type A{a:Int}", "Empty①"}, {"union ①A extend enum A{B}", "Empty①"},
		{"type ①A type A{a:Int}", "Empty①"}, {"type A{a:Int}type A", ""},
		{"type Int extend type X@d directive@d on ENUM", ""},
		{"type ①B\n enum ②A union C=D", "Empty①; Empty②"},
	})
}

// P14.2: names of fields, values and input fields that stand several times in one type.
func TestPartTwice(t *testing.T) {
	checkRows(t, "Parts", []row{
		{"type A{a:Int b:Int A:Int}", ""},
		{"type A{①a:Int ②a:Int}", "PartTwice①②"}, {"interface A{①a:Int ②a:String}", "PartTwice①②"}, {"enum A{①B ②B}", "PartTwice①②"}, {"input A{①a:Int ②a:Int}", "PartTwice①②"},
		{"type A{①a:Int b:Int ②a:Int c:Int ③a:Int}", "PartTwice①②③"},
		{"type A{①a:Int ③b:Int ②a:Int ④b:Int}", "PartTwice①②; PartTwice③④"},
		{"type A{a:Int}type B{a:Int}interface C{a:Int}input D{a:Int}enum E{a}", ""},
		{"type A{a(a:Int):Int}", ""},
		{"type A{①a:Int}extend type A{②a:Int}", "PartTwice①②"},
		{"extend type A{①a:Int}\ntype A{②a:Int}", "PartTwice①②"},
		{"extend enum A{①B}\nenum A{②B C}extend enum A{③B D}extend enum A{④B}", "PartTwice①②③④"},
		{"extend input A{①a:Int}\nextend input A{b:Int}input A{②a:Int}", "PartTwice①②"},
		{"extend interface A{①a:Int ③b:Int}\ninterface A{②a:Int}extend interface A{④b:Int}", "PartTwice①②; PartTwice③④"},
		{"type A{a:Int}extend interface A{a:Int}type A{a:Int}", ""},
		{"union A=B|B", ""},
		{"type A{①__typename:Int ②__typename:Int}", "PartTwice①②"},
		{"type Int{a:Int a:Int}extend type X{a:Int a:Int}", ""},
	})
}

// P14.2: names of arguments that stand several times in one field or directive.
func TestInputTwice(t *testing.T) {
	checkRows(t, "Parts", []row{
		{"type A{a(x:Int y:Int X:Int):Int}", ""},
		{"type A{a(①x:Int ②x:Int):Int}", "InputTwice①②"}, {"interface A{a(①x:Int y:Int ②x:String ③x:Int):Int}", "InputTwice①②③"}, {"directive@d(①x:Int ②x:Int)on ENUM", "InputTwice①②"},
		{"directive@d(①x:Int ③y:Int ②x:Int ④y:Int)on ENUM", "InputTwice①②; InputTwice③④"},
		{"type A{a(x:Int):Int b(x:Int):Int}type B{a(x:Int):Int}directive@d(x:Int)on ENUM directive@e(x:Int)on ENUM", ""},
		{"type A{①a(③x:Int ④x:Int):Int ②a(⑤x:Int ⑥x:Int):Int}", "PartTwice①②; InputTwice③④; InputTwice⑤⑥"},
		{"type A{①a(x:Int):Int}extend type A{②a(x:Int):Int}", "PartTwice①②"},
		{"type A{a:Int}extend type A{b(①x:Int ②x:Int):Int}", "InputTwice①②"},
		{"directive@d on ENUM directive@d(x:Int x:Int)on ENUM directive@skip(x:Int x:Int)on ENUM", ""},
	})
}

// P14.2: references to nothing, of fields and of all kinds of inputs, however they are wrapped.
func TestTypeNone(t *testing.T) {
	checkRows(t, "Refs", []row{
		{"type A{a:Int b:[A!]! c:__Type d(x:__TypeKind):[[B]]}enum B", ""},
		{"type A{①a:X}", "TypeNone①"}, {"type A{①a:[[X!]]!}", "TypeNone①"}, {"interface A{①a:X}", "TypeNone①"},
		{"type A{a(①x:X):Int}", "TypeNone①"}, {"interface A{a(x:Int ①y:[X]!):Int}", "TypeNone①"}, {"input A{①a:X}", "TypeNone①"}, {"input A{①a:[X!]!}", "TypeNone①"}, {"directive@d(①x:X)on ENUM", "TypeNone①"},
		{"type A{①a:int ②b:a ③c:skip ④d:A_}directive@a on ENUM", "TypeNone①; TypeNone②; TypeNone③; TypeNone④"},
		{"type A{①a:X}extend type X@d", "TypeNone①"},
		{"extend type A{①a(②x:X):X ③a:X}type A", "TypeNone①; TypeNone②; TypeNone③"},
		{"extend input A{①b:X}\ninput A{a:Int}", "TypeNone①"},
		{"type Int{a:X}type A type A{a:X}extend enum A{B}extend input A{a:X}directive@d on ENUM directive@d(x:X)on ENUM directive@skip(x:X)on ENUM", ""},
		{"enum A{X}union B=X type C implements X@X(x:X)schema{query:X}", ""},
	})
}

// P14.2: types that may not come out, and types that may not go in.
func TestOutputAndInput(t *testing.T) {
	const all = "scalar S type O interface I union U enum E input N "
	checkRows(t, "Refs", []row{
		{all + "type A{a:S b:O c:I d:U e:E ①f:N g:__TypeKind h:__Type i:ID}", "Output①"},
		{all + "interface A{a:[S] b:[O!] c:[[I]] d:U! e:E! ①f:[N!]!}", "Output①"},
		{all + "type A{a(x:S ①y:O ②z:I ③u:U e:E n:N k:__TypeKind ④t:__Type i:ID):Int}", "Input①; Input②; Input③; Input④"},
		{all + "interface A{a(x:[S] ①y:[O]! ②z:I! ③u:[[U!]] e:E! n:[N!]):Int}", "Input①; Input②; Input③"},
		{all + "input A{x:S ①y:O ②z:I ③u:U e:E n:N k:[__DirectiveLocation!] ④t:__Schema}", "Input①; Input②; Input③; Input④"},
		{all + "directive@d(x:S ①y:O ②z:I ③u:U e:E n:N ④t:[__Field])on ENUM", "Input①; Input②; Input③; Input④"},
		{all + "extend input N{①a:O b:N}extend type O{②a:N b:O}", "Output②; Input①"},
		{all + "type A{①a(②x:O):N}", "Output①; Input②"},
		{"type A{a:B}type B input B{a:Int}input C{①b:B c:D}input D type D", "Input①"},
		{"type Int{a:N}input N directive@skip(x:Int y:A)on ENUM type A type A{a:N}", ""},
	})
}

// P14.2: members of unions that are no object types, built-in ones, none; and those that stand several times.
func TestMembers(t *testing.T) {
	const all = "scalar S type O interface I union U=O enum E input N type P "
	checkRows(t, "Members", []row{
		{all + "union A=O|P", ""},
		{all + "union A=①S|O|②I|③U|④E|⑤N|⑥X|⑦Int|⑧__Type|⑨A", "Member①; Member②; Member③; Member④; Member⑤; Member⑥; Member⑦; Member⑧; Member⑨"},
		{all + "union A=①O|②O", "MemberTwice①②"},
		{all + "union A=①O|③P|②O|④P", "MemberTwice①②; MemberTwice③④"},
		{all + "union A=①X|②X", "Member①; Member②; MemberTwice①②"},
		{all + "union A=①O extend union A=P|②O", "MemberTwice①②"},
		{all + "extend union A=①O\nunion A=②O|P extend union A=③O", "MemberTwice①②③"},
		{all + "extend union A=①S\nunion A=P extend union A=②I", "Member①; Member②"},
		{all + "union A=O union B=O union C=P|O", ""},
		{"union A=B type B enum B union C=①D enum D type D", "Member①"},
		{"union A=①B extend type B@d directive@B on ENUM union O=o type o", "Member①"},
		{"union Int=X|X union A=B type B union A=X|X extend union C=X|X extend union B=X|X", ""},
		{"union A", ""},
	})
}
