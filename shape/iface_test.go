package shape_test

import "testing"

// P14.2: names among a type's interfaces that are no interfaces, stand twice, are the type's own.
func TestIfaceNames(t *testing.T) {
	const all = "scalar S type O interface I interface J union U enum E input N "
	checkRows(t, "Ifaces", []row{
		{all + "type A implements I&J", ""},
		{all + "interface A implements I&J", ""},
		{all + "type A implements ①S&②O&I&③U&④E&⑤N&⑥X&⑦Int&⑧__Type&⑨i", "Iface①; Iface②; Iface③; Iface④; Iface⑤; Iface⑥; Iface⑦; Iface⑧; Iface⑨"},
		{all + "interface A implements ①O&J&②X", "Iface①; Iface②"},
		{all + "extend type A implements ①O\ntype A implements ②X", "Iface①; Iface②"},
		{"type A implements B interface B enum B type C implements ①D enum D interface D", "Iface①"},
		{"type A implements ①B extend interface B@d directive@B on ENUM", "Iface①"},
		{all + "type A implements ①I&②I", "IfaceTwice①②"},
		{all + "type A implements ①I&③J&②I&④J", "IfaceTwice①②; IfaceTwice③④"},
		{all + "type A implements ①I extend type A implements J&②I", "IfaceTwice①②"},
		{all + "extend interface A implements ①I\ninterface A implements ②I&J extend interface A implements ③I", "IfaceTwice①②③"},
		{all + "type A implements ①X&②X", "Iface①; Iface②; IfaceTwice①②"},
		{all + "type A implements I type B implements I interface C implements I", ""},
		{"interface A implements ①A", "IfaceSelf①"},
		{"type A implements ①A", "Iface①; IfaceSelf①"},
		{"interface A implements ①A&②A", "IfaceTwice①②; IfaceSelf①; IfaceSelf②"},
		{"extend interface A implements ①A interface A", "IfaceSelf①"},
		{"interface A implements ①A{a:Int b(x:Int):A}", "IfaceSelf①"},
		{"type Int implements X&X type A type A implements X&X&A extend interface A implements X&A extend type Y implements X&Y", ""},
		{"type A", ""},
	})
}

// P14.2: interfaces of interfaces that the type doesn't name.
func TestIfaceMore(t *testing.T) {
	checkRows(t, "Ifaces", []row{
		{"interface I implements J interface J type A implements I&J", ""},
		{"interface I implements J interface J type A implements J&I", ""},
		{"interface I implements J interface J type A implements ①I", "IfaceMore①"},
		{"interface I implements J interface J interface A implements ①I", "IfaceMore①"},
		{"interface I implements J&K interface J interface K type A implements ①I", "IfaceMore①"},
		{"interface I implements J&K interface J interface K type A implements ①I&J", "IfaceMore①"},
		{"interface I implements J&K interface J interface K type A implements I&J extend type A implements K", ""},
		{"interface I implements ①J interface J implements K interface K type A implements ②I&③J", "IfaceMore①; IfaceMore③"},
		{"interface I implements J&K interface J implements K interface K type A implements I&J&K", ""},
		{"interface I implements J&K interface J implements K interface K type A implements ①I&K", "IfaceMore①"},
		{"interface I implements ①J interface J implements ②I", "IfaceMore①; IfaceMore②"},
		{"interface I implements J&②I interface J implements I&①J", "IfaceSelf②; IfaceSelf①"},
		{"interface I implements ②X type A implements ①I", "Iface②; IfaceMore①"},
		{"interface I implements ②X type A implements I&①X", "Iface②; Iface①"},
		{"interface I implements ②A type ③A implements ①I", "Iface②; IfaceMore①"},
		{"interface I implements ③A type A implements I&①A", "Iface③; Iface①; IfaceSelf①"},
		{"interface I implements ①I type A implements ②I", "IfaceSelf①"},
		{"extend interface I implements J interface I interface J type A implements ①I", "IfaceMore①"},
		{"extend type A implements J interface I implements J interface J type A implements I", ""},
		{"interface I implements J interface J type A implements ①I&②I", "IfaceTwice①②; IfaceMore①; IfaceMore②"},
		{"interface I interface I implements J interface J type A implements I", ""},
	})
}

// P14.2: fields of an interface that a type hasn't.
func TestImplField(t *testing.T) {
	checkRows(t, "Ifaces", []row{
		{"interface I{a:Int b:Int}type A implements I{b:Int a:Int c:Int}", ""},
		{"interface I{a:Int ②b:Int}type A implements ①I{a:Int}", "ImplField①②"},
		{"interface I{③a:Int ②b:Int}type A implements ①I", "ImplField①③; ImplField①②"},
		{"type A implements ①I{a:Int}interface I{a:Int ②b:Int}", "ImplField①②"},
		{"interface I{②a:Int}interface A implements ①I{A:Int}", "ImplField①②"},
		{"interface I{②a:Int}type A implements ①I extend type A{b:Int}", "ImplField①②"},
		{"interface I{a:Int}type A implements I extend type A{a:Int}", ""},
		{"extend type A{a:Int}interface I{a:Int}type A implements I", ""},
		{"interface I extend interface I{②a:Int}type A implements ①I{b:Int}", "ImplField①②"},
		{"interface I extend interface I{②a:Int}type A{b:Int}extend type A implements ①I", "ImplField①②"},
		{"interface I{②a:Int}type A implements ①I&③I", "IfaceTwice①③; ImplField①②; ImplField③②"},
		{"interface I{②a:Int}interface J{④a:Int}type A implements ①I&③J", "ImplField①②; ImplField③④"},
		{"interface I{②a:Int}type A implements ①I type B implements ③I", "ImplField①②; ImplField③②"},
		{"interface I{②a:Int a:String}type A implements ①I", "ImplField①②"},
		{"extend interface I{a:Int}\ninterface I{②a:Int}type A implements ①I", "ImplField①②"},
		{"interface I{②__typename:Int}type A implements ①I{a:Int}", "ImplField①②"},
		{"schema{query:A}interface I{②__schema:Int ③__type:Int}type A implements ①I{a:Int}", "ImplField①②; ImplField①③"},
		{"type I{a:Int}type A implements ①I", "Iface①"},
		{"interface I{②a:Int}interface J implements ①I type A implements ③J", "IfaceMore③; ImplField①②"},
	})
}

// P14.2: types of fields that don't fit those of the interface's.
func TestImplType(t *testing.T) {
	const all = "interface K interface L implements K type O implements K union U=O scalar S enum E{A}input N "
	for _, c := range []struct {
		of, has string
		fits    bool
	}{
		{"Int", "Int", true}, {"Int", "Int!", true}, {"Int!", "Int", false}, {"Int!", "Int!", true}, {"Int", "Float", false}, {"Float", "Int", false}, {"ID", "String", false},
		{"[Int]", "[Int]", true}, {"[Int]", "[Int!]!", true}, {"[Int!]", "[Int]", false}, {"[Int!]", "[Int]!", false}, {"[Int]", "Int", false}, {"Int", "[Int]", false}, {"[[Int]!]", "[[Int!]!]!", true}, {"[Int]", "[[Int]]", false},
		{"K", "K", true}, {"K", "L", true}, {"K", "O", true}, {"L", "K", false}, {"L", "O", false}, {"O", "K", false}, {"U", "O", true}, {"O", "U", false}, {"U", "K", false}, {"K", "U", false}, {"[K]!", "[O!]!", true}, {"[K!]", "[O]", false},
		{"E", "E", true}, {"E", "S", false}, {"S", "Int", false}, {"I", "A", true}, {"[I]", "[A!]", true}, {"I", "B", false}, {"A", "I", false}, {"I", "I", true},
		{"X", "X", false}, {"X!", "Int", false}, {"Int", "X", false}, {"N", "N", true},
	} {
		want := ""
		if !c.fits {
			want = "ImplType①②"
		}
		checkRows(t, "Ifaces", []row{
			{all + "type B interface I{②f:" + c.of + "}type A implements I{①f:" + c.has + "}", want},
			{all + "type B interface A implements I{①f:" + c.has + "}interface I{②f:" + c.of + "}", want},
		})
	}
	checkRows(t, "Ifaces", []row{
		{"interface I{②a:Int ④b:Int}type A implements I{③b:ID ①a:ID}", "ImplType③④; ImplType①②"},
		{"interface I{②a:Int}interface J{③a:ID}type A implements I&J{①a:String}", "ImplType①②; ImplType①③"},
		{"interface I{②a:Int a:String}type A implements I{①a:String a:Int}", "ImplType①②"},
		{"interface I{a:Int a:String}type A implements I{a:Int a:Nope}", ""},
		{"extend interface I{a:String}\ninterface I{②a:Int}extend type A{a:Int}\ntype A implements I{①a:String}", "ImplType①②"},
		{"interface I{②a:Int}type A implements ③I&④I{①a:ID}", "IfaceTwice③④; ImplType①②"},
		{"type I{a:Int}type A implements ①I{a:ID}", "Iface①"},
		{"type A implements ①A{a:Int a:ID}", "Iface①; IfaceSelf①"},
		{"interface A implements ①A{a:Int a:ID}", "IfaceSelf①"},
	})
}

// P14.2: arguments of an interface's field that the type's field hasn't, has of another type, or has more of.
func TestImplArgs(t *testing.T) {
	checkRows(t, "Ifaces", []row{
		{"interface I{a(x:Int y:[ID!]!):Int}type A implements I{a(y:[ID!]! x:Int):Int}", ""},
		{"interface I{a(②x:Int):Int}type A implements I{①a:Int}", "ImplArg①②"},
		{"interface I{a(②x:Int ③y:Int z:Int):Int}type A implements I{①a(z:Int):Int}", "ImplArg①②; ImplArg①③"},
		{"interface I{a(②x:Int!=1):Int}interface A implements I{①a(X:Int):Int}", "ImplArg①②"},
		{"interface I{a(②x:Int ③x:Int):Int}type A implements I{①a:Int}", "ImplArg①②; ImplArg①③"},
		{"interface I{a(x:Int x:ID):Int}type A implements I{a(x:Int):Int}", ""},
		{"interface I{a(②x:Int):Int}interface J{a(③x:Int):Int}type A implements I&J{①a:Int}", "ImplArg①②; ImplArg①③"},
		{"interface I{a(②x:Int):Int}type A implements I{①a:Int a(x:Int):Int}", "ImplArg①②"},
		{"interface I{a:Int a(x:Int):Int}type A implements I{a:Int}", ""},

		{"interface I{a(②x:Int):Int}type A implements I{a(①x:ID):Int}", "ImplArgType①②"},
		{"interface I{a(②x:Int):Int}type A implements I{a(①x:Int!):Int}", "ImplArgType①②"},
		{"interface I{a(②x:Int!):Int}type A implements I{a(①x:Int):Int}", "ImplArgType①②"},
		{"interface I{a(②x:[Int]):Int}interface A implements I{a(①x:Int):Int}", "ImplArgType①②"},
		{"interface I{a(②x:[Int!]):Int}type A implements I{a(①x:[Int]!):Int}", "ImplArgType①②"},
		{"interface I{a(x:[[Int!]]!=1@d):Int}type A implements I{a(x:[[Int!]]!=2@e):Int}", ""},
		{"interface I{a(x:X):Int}type A implements I{a(x:X):Int}", ""},
		{"interface K type O implements K interface I{a(②x:K):Int}type A implements I{a(①x:O):Int}", "ImplArgType①②"},
		{"interface I{a(②x:Int ④y:Int):Int}type A implements I{a(③y:ID ①x:ID):Int}", "ImplArgType③④; ImplArgType①②"},
		{"interface I{a(②x:Int x:ID):Int}type A implements I{a(①x:ID x:Int):Int}", "ImplArgType①②"},
		{"interface I{a(x:Int x:ID):Int}type A implements I{a(x:Int x:Float):Int}", ""},

		{"interface I{a:Int}type A implements I{a(x:Int y:[Int!] z:Int!=1 u:[Int]!=[]):Int}", ""},
		{"interface I{②a:Int}type A implements I{a(①x:Int!):Int}", "ImplExtra①②"},
		{"interface I{②a:Int}interface A implements I{a(①x:[Int]! y:Int ③z:Int!):Int}", "ImplExtra①②; ImplExtra③②"},
		{"interface I{②a:Int}type A implements I{a(①x:Int! ③x:Int!):Int}", "ImplExtra①②; ImplExtra③②"},
		{"interface I{②a:Int}type A implements I{a(x:Int ③x:Int!):Int}", "ImplExtra③②"},
		{"interface I{a(x:Int!):Int}type A implements I{a(x:Int! y:Int):Int}", ""},
		{"interface I{②a(x:Int):Int}interface J{③a:Int}type A implements I&J{a(x:Int ①y:Int!):Int}", "ImplExtra①②; ImplExtra①③"},
		{"interface I{②a:Int}type A implements I{a(①x:X!):Int}", "ImplExtra①②"},

		{"interface I{②a(③x:Int ⑤z:Int):Int}type A implements I{①a(④y:Int! ⑥z:ID):ID}", "ImplType①②; ImplArg①③; ImplArgType⑥⑤; ImplExtra④②"},
		{"interface A implements ①A{a(x:Int):Int a(y:Int!):ID}", "IfaceSelf①"},
		{"enum I{a}type A implements ①I{a(x:Int!):Int}", "Iface①"},
	})
}
