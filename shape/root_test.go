package shape_test

import "testing"

func TestNoQuery(t *testing.T) {
	checkRows(t, "Roots", []row{
		{"type Query", ""},
		{"type Query{a:Int}type Mutation type Subscription", ""},
		{"type query", "NoQuery"},
		{"type Mutation type Subscription", "NoQuery"},
		{"scalar Query", "NoQuery"},
		{"interface Query type Query", "NoQuery"},
		{"type Query interface Query", ""},
		{"extend type Query@d", "NoQuery"},
		{"extend schema{query:A}type A", "NoQuery"},
		{"schema{query:A}type A", ""},
		{"schema{mutation:A}type A type Query", "NoQuery"},
		{"schema{mutation:A}extend schema{query:B}type A type B", ""},
		{"extend schema{query:B}schema{mutation:A}type A type B", ""},
		{"schema{subscription:A}schema{query:B}type A type B", "NoQuery"},
		{"schema{①query:A}", "RootKind①"},
	})
}

// P14.2: roots whose types are no object types, or built-in ones, or none.
func TestRootKind(t *testing.T) {
	checkRows(t, "Roots", []row{
		{"schema{query:A}type A", ""},
		{"type A schema{query:A}", ""},
		{"schema{①query:A}scalar A", "RootKind①"},
		{"schema{①query:A}interface A", "RootKind①"},
		{"schema{①query:A}union A", "RootKind①"},
		{"schema{①query:A}enum A", "RootKind①"},
		{"schema{①query:A}input A", "RootKind①"},
		{"schema{①query:A}directive@A on ENUM", "RootKind①"},
		{"schema{①query:A}extend type A@d", "RootKind①"},
		{"schema{①query:__Type}", "RootKind①"},
		{"schema{①query:__Type}type __Type", "RootKind①"},
		{"schema{①query:Int}", "RootKind①"},
		{"schema{①query:Query}", "RootKind①"},
		{"schema{①query:A}enum A type A", "RootKind①"},
		{"schema{query:A}type A enum A", ""},
		{"schema{query:A ①mutation:B}extend schema{subscription:C ②mutation:D}\nextend schema{③query:E}type A type C", "RootKind①; RootKind②; RootKind③"},
		{"schema{①query:X ②query:X}", "RootKind①; RootKind②"},
	})
}

// P14.2: one type for unlike operations.
func TestRootSame(t *testing.T) {
	checkRows(t, "Roots", []row{
		{"schema{query:A mutation:B subscription:C}type A type B type C", ""},
		{"schema{①query:A ②mutation:A}type A", "RootSame①②"},
		{"schema{①query:A ②mutation:A ③subscription:A}type A", "RootSame①②③"},
		{"schema{①mutation:A ②query:A subscription:B}type A type B", "RootSame①②"},
		{"schema{query:A query:A}type A", ""},
		{"schema{query:A query:A mutation:B mutation:B query:A}type A type B", ""},
		{"schema{①query:A ②query:A ③mutation:A ④query:A}type A", "RootSame①②③④"},
		{"schema{①query:A ③query:B ②mutation:A ④subscription:B}type A type B", "RootSame①②; RootSame③④"},
		{"extend schema{①mutation:A}\nschema{②query:A}type A", "RootSame①②"},
		{"extend schema{①mutation:A}\nextend schema{②query:A}schema{③query:A subscription:B}extend schema{④subscription:A}type A type B", "RootSame①②③④"},
		{"schema{①query:X ②mutation:X}", "RootKind①; RootKind②; RootSame①②"},
		{"schema{①query:Int ②mutation:Int}", "RootKind①; RootKind②; RootSame①②"},
		{"schema{query:A}schema{mutation:A}type A", ""},
		{"type Query type Mutation type Subscription", ""},
	})
}
