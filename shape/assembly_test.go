package shape_test

import (
	"strings"
	"testing"
)

// P14.1: names that several type definitions bear, of one kind and of several.
func TestTypeTwice(t *testing.T) {
	checkRows(t, "Assembly", []row{
		{"type A", ""},
		{"type A type B", ""},
		{"type ①A type ②A", "TypeTwice①②"},
		{"type ①A\n type ②A\n\ntype ③A", "TypeTwice①②③"},
		{"type ①A scalar ②A interface ③A union ④A enum ⑤A input ⑥A", "TypeTwice①②③④⑤⑥"},
		{"type ①A type ②B scalar ③A enum ④B type C", "TypeTwice①③; TypeTwice②④"},
		{"type ①A type ③B scalar ④B enum ②A type C", "TypeTwice①②; TypeTwice③④"},
		{"type A type a type A_", ""},
		{"type A directive@A on ENUM", ""},
		{"type A extend type A@d extend type A@d", ""},
		{"extend type A@d type ①A extend type A@d scalar ②A", "TypeTwice①②"},
		{"type ①__A type ②__A", "TypeTwice①②"},
		{"type ①Int scalar ②Int", "BuiltIn①; BuiltIn②"},
		{"type schema type query type skip type true", ""},
	})
}

func TestDirTwice(t *testing.T) {
	checkRows(t, "Assembly", []row{
		{"directive@d on ENUM", ""},
		{"directive@d on ENUM directive@e on ENUM directive@D on ENUM", ""},
		{"directive@①d on ENUM directive@②d(a:Int)repeatable on FIELD", "DirTwice①②"},
		{"directive@①d on ENUM\n directive@③e on ENUM directive\n@\n②d on ENUM directive@④e on ENUM type d", "DirTwice①②; DirTwice③④"},
		{"directive@①d on ENUM directive@②d on ENUM directive@③d on ENUM", "DirTwice①②③"},
		{"directive@①skip on ENUM directive@②skip on ENUM", "BuiltIn①; BuiltIn②"},
		{"directive@Int on ENUM directive@__Type on ENUM directive@__skip on ENUM", ""},
	})
}

func TestSchemaTwice(t *testing.T) {
	checkRows(t, "Assembly", []row{
		{"schema{query:A}", ""},
		{"schema{query:A}extend schema{mutation:B}extend schema@d", ""},
		{"①schema{query:A} ②schema{query:A}", "SchemaTwice①②"},
		{"①schema{query:A}extend schema@d\n②schema{mutation:A}\n③schema@d{query:A}type schema", "SchemaTwice①②③"},
		{"①schema{query:A}②schema{query:A query:A}", "SchemaTwice①②"},
	})
}

// P14.1: operations that have several roots, of the schema and of its extensions, which may stand ahead of it.
func TestRootTwice(t *testing.T) {
	checkRows(t, "Assembly", []row{
		{"schema{query:A mutation:A subscription:A}", ""},
		{"schema{①query:A ②query:A}", "RootTwice①②"},
		{"schema{①query:A ②query:B ③query:C}", "RootTwice①②③"},
		{"schema{①mutation:A ③subscription:B ②mutation:B ④subscription:B}", "RootTwice①②; RootTwice③④"},
		{"schema{①query:A}extend schema{②query:A mutation:B}", "RootTwice①②"},
		{"extend schema{①query:A}schema{②query:A mutation:B}", "RootTwice①②"},
		{"extend schema{①query:A ④mutation:A}\nextend schema{②query:A}\nschema{③query:A ⑤mutation:B}\nextend schema{⑥mutation:B}", "RootTwice①②③; RootTwice④⑤⑥"},
		{"extend ①schema{query:A query:B}", "ExtendNone①"},
		{"extend ①schema{query:A query:B}type Query", "ExtendNone①"},
		{"type Query type Mutation type Subscription", ""},
		{"type ①Query type ②Query", "TypeTwice①②"},
	})
}

// P14.1: each built-in name, defined and extended, as each kind.
func TestBuiltIn(t *testing.T) {
	var rows []row
	for _, name := range strings.Fields(builtInTypes) {
		for _, kind := range []string{"scalar", "type", "interface", "union", "enum", "input"} {
			rows = append(rows,
				row{kind + " ①" + name, "BuiltIn①"},
				row{"extend " + kind + " ①" + name + "@d", "BuiltIn①"},
				row{"extend " + kind + " ①" + name + "@d " + kind + " ②" + name, "BuiltIn①; BuiltIn②"},
			)
		}
		rows = append(rows, row{"directive@" + name + " on ENUM type " + strings.ToLower(name) + " type " + name + "_", ""})
	}
	for _, name := range strings.Fields(builtInDirectives) {
		rows = append(rows,
			row{"directive@①" + name + " on ENUM", "BuiltIn①"},
			row{"scalar " + name + " extend scalar " + name + "@d directive@" + strings.ToUpper(name) + " on ENUM directive@_" + name + " on ENUM", ""},
		)
	}
	checkRows(t, "Assembly", rows)
}

// P14.1: extensions of what isn't defined.
func TestExtendNone(t *testing.T) {
	checkRows(t, "Assembly", []row{
		{"extend scalar ①A@d", "ExtendNone①"},
		{"extend type ①A@d extend interface ②A@d extend union ③B@d extend enum ④C@d extend input ⑤D@d", "ExtendNone①; ExtendNone②; ExtendNone③; ExtendNone④; ExtendNone⑤"},
		{"extend type A@d type A", ""},
		{"type A extend type A@d", ""},
		{"type A extend type ①a@d", "ExtendNone①"},
		{"directive@A on ENUM extend type ①A@d", "ExtendNone①"},
		{"extend type ①__A@d", "ExtendNone①"},
		{"extend type ①skip@d", "ExtendNone①"},
		{"extend ①schema@d", "ExtendNone①"},
		{"extend ①schema@d extend ②schema{query:A}type Query type A", "ExtendNone①; ExtendNone②"},
		{"extend schema@d schema{query:A}", ""},
		{"schema{query:A}extend schema@d", ""},
		{"type schema extend ①schema@d extend type schema@d", "ExtendNone①"},
		{"schema{query:A}extend type ①schema@d", "ExtendNone①"},
	})
}

// P14.1: extensions of a type of another kind; the first definition of the name says which kind that is.
func TestExtendKind(t *testing.T) {
	kinds := []string{"scalar", "type", "interface", "union", "enum", "input"}
	var rows []row
	for _, one := range kinds {
		for _, other := range kinds {
			want := "ExtendKind①"
			if one == other {
				want = ""
			}
			rows = append(rows,
				row{one + " A extend " + other + " ①A@d", want},
				row{"extend " + other + " ①A@d " + one + " A", want},
				row{one + " ②A " + other + " ③A extend " + other + " ①A@d", strings.TrimSuffix("TypeTwice②③; "+want, "; ")},
			)
		}
	}
	checkRows(t, "Assembly", append(rows,
		row{"type ①A enum ②A extend enum ③A@d extend type A@d extend scalar ④A@d", "TypeTwice①②; ExtendKind③; ExtendKind④"},
		row{"extend enum ①A@d extend enum ②A@d\ntype A", "ExtendKind①; ExtendKind②"},
	))
}
