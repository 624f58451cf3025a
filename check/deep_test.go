package check_test

import (
	"strings"
	"testing"

	"pergola/api"
	"pergola/check"
)

// checkDepths holds the depths of all definitions against rows.
func checkDepths(t *testing.T, rows []row) {
	t.Helper()
	for _, r := range rows {
		doc := parse(t, r.doc)
		if got := depths(doc); got != r.want {
			t.Errorf("%s: got %s, want %s", r.doc, got, r.want)
		}
		holdDeep(t, r.doc, doc)
	}
}

// P21.2: the chapter's examples.
func TestDeepExamples(t *testing.T) {
	checkDepths(t, []row{
		{"{a}", "1"},
		{"{a {b {c}} d}", "3"},
		{"{... {... on T {a}}}", "1"},
		{"{...F a} fragment F on T {b {c}}", "2 2"},
		{"{a {...F}} fragment F on T {b {c}}", "3 2"},
		{"{...X}", "-"},
		{"{... {... on T {...G}}} fragment G on T {a}", "1 1"},
		{"{...F} fragment F on T {a {...F}}", "- -"},
		{"{a} fragment F on T {...F}", "1 -"},
	})
}

// P21.2: there is no definition of that number.
func TestDeepOfNoDefinition(t *testing.T) {
	for _, doc := range []api.Document{{}, {Defs: []api.Def{}}, parse(t, "{a}"), parse(t, "{...F} fragment F on T {a}")} {
		holdDeep(t, "no definition", doc)
	}
	for _, def := range []int{-1, 1, 2} {
		if n, ok := check.Deep(parse(t, "{a}"), def); n != 0 || ok {
			t.Error("number", def, "has a depth:", n, ok)
		}
	}
}

// P21.2: fields, inline fragments and braces in one definition.
func TestDeepInOneDefinition(t *testing.T) {
	checkDepths(t, []row{
		{"{a b c}", "1"},
		{"{a {b} c {d {e}} f {g}}", "3"},
		{"{a {b {c}} d {e}}", "3"},
		{"{a {... {b {... on T {c}}}}}", "3"},
		{"{... {a} ... on T {a {b}} c}", "2"},
		{"{... {... {... {a}}} b {... {... {c}}}}", "2"},
		{"mutation {a {b}} subscription {a {b {c}}} query Q {a}", "2 3 1"},
		{"query ($v: [[Int]] = [[1]] @d(x: {a: {b: 1}})) @d(x: [[1]]) {a(x: {a: {b: {c: [1]}}}) @d(x: [[[1]]])}", "1"},
		{"{" + strings.Repeat("a {", 198) + "b" + strings.Repeat("}", 198) + "}", "199"},
	})
}

// P21.2: a spread's fields lie where the spread lies, and the deepest way counts.
func TestDeepOverSpreads(t *testing.T) {
	checkDepths(t, []row{
		{"{...F a {...F} b {c {...F}}} fragment F on T {a {b}}", "4 2"},
		{"{b {c {...F}} a {...F} ...F} fragment F on T {a {b}}", "4 2"},
		{"{...F a {b {c}}} fragment F on T {a}", "3 1"},
		{"{...F} fragment F on T {a {...G} b {c}} fragment G on T {a {...H}} fragment H on T {a {b}}", "4 4 3 2"},
		{"fragment H on T {a {b}} fragment G on T {a {...H}} fragment F on T {a {...G} b {c}} {...F}", "2 3 4 4"},
		{"{a {... {... on T {...F}}}} fragment F on T {... {b}}", "2 1"},
		{"{...F ...G} fragment F on T {a} fragment G on T {a {b {c}}}", "3 1 3"},
		{"{...G ...F} fragment F on T {a} fragment G on T {a {b {c}}}", "3 1 3"},
		{"{...F @skip(if: true)} fragment F on T {a @skip(if: true) {b}}", "2 2"},
	})
}

// P21.2: of several fragments of one name the first counts; an operation of that name is none.
func TestDeepOfNames(t *testing.T) {
	checkDepths(t, []row{
		{"{...F} fragment F on T {a} fragment F on T {a {b}}", "1 1 2"},
		{"{...F} fragment F on T {a {b}} fragment F on T {a}", "2 2 1"},
		{"fragment F on T {a {b}} {...F} fragment F on T {a}", "2 2 1"},
		{"query F {...F}", "-"},
		{"query F {a {...F}} fragment F on T {a}", "2 1"},
		{"{...F} fragment f on T {a}", "- 1"},
		{"{...F} fragment F on T {a} fragment F on T {a {...F}}", "1 1 2"},
		{"{...F} fragment F on T {a} fragment F on T {...X}", "1 1 -"},
		{"{...F} fragment F on T {...G} fragment F on T {a {...G}} fragment G on T {b}", "1 1 2 1"},
		{"{...F} fragment F on T {a} fragment F on T {...G} fragment G on T {a {...F}}", "1 1 2 2"},
	})
}

// P21.2: spreads that mean no fragment, wherever they are reached.
func TestDeepOfStraySpreads(t *testing.T) {
	checkDepths(t, []row{
		{"{a ...X}", "-"},
		{"{...X a}", "-"},
		{"{a {b {...X}}}", "-"},
		{"{a {... {... on T {...X}}}}", "-"},
		{"{a} {...X}", "1 -"},
		{"{...F} fragment F on T {a {...X}}", "- -"},
		{"{...F} fragment F on T {...G} fragment G on T {...H a} fragment H on T {a} fragment I on T {...X}", "1 1 1 1 -"},
		{"{...F} fragment F on T {...G} fragment G on T {...H a} fragment H on T {a ...X} fragment I on T {a}", "- - - - 1"},
		{"{...F ...F} fragment F on T {...F ...X}", "- -"},
	})
}

// P21.2: rings, those that are led to among them.
func TestDeepOfRings(t *testing.T) {
	checkDepths(t, []row{
		{"{...F} fragment F on T {...F}", "- -"},
		{"{...F} fragment F on T {a ...F b}", "- -"},
		{"{...F} fragment F on T {...G} fragment G on T {a {...F}}", "- - -"},
		{"{...F} fragment F on T {...G} fragment G on T {a {...G}}", "- - -"},
		{"{...G} fragment F on T {...G} fragment G on T {a}", "1 1 1"},
		{"{...H} fragment F on T {...G ...H} fragment G on T {...F} fragment H on T {a}", "1 - - 1"},
		{"{...F} fragment F on T {...G} fragment G on T {...H} fragment H on T {...F} fragment I on T {...H} fragment J on T {a}", "- - - - - 1"},
		{"fragment A on T {...B} fragment B on T {...A ...C} fragment C on T {a {...D}} fragment D on T {...C} {a}", "- - - - 1"},
	})
}
