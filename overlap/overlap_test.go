package overlap_test

import (
	"testing"

	"pergola/api"
	"pergola/overlap"
	"pergola/scope"
)

// P18.3: the chapter's examples.
func TestExamples(t *testing.T) {
	checkRows(t, chapter, check, []row{
		{"{a a}", ""},
		{"{a a:s}", "1:2 1:4"},
		{"{c(x:1,y:2) c(y:2,x:1)}", ""},
		{"{c(x:1) c(x:2)}", "1:2 1:9"},
		{"{c c(x:1)}", "1:2 1:4"},
		{"{b{... on Query{s} ... on T{s}}}", "1:17 1:29"},
		{"{b{... on Query{k:a} ... on T{k:n}}}", "1:17 1:31"},
		{"{b{... on Query{k:b{x:a}} ... on T{k:b{x:n}}}}", "1:21 1:40"},
		{"{a a:c a:s}", "1:2 1:4; 1:2 1:8"},
		{"{q{a} q{a:c}}", "1:4 1:9"},
		{"{...F} fragment F on Query{...F a a:c}", "1:33 1:35"},
		{"{z{a} z{a:c}}", "1:4 1:9"},
	})
	checkRows(t, chapter, pairs, []row{
		{"{a a}", "1:2 1:4"},
		{"{b{... on Query{s} ... on T{s}}}", "1:17 1:29"},
		{"{b{... on Query{k:b{x:a}} ... on T{k:b{x:n}}}}", "1:17 1:36"},
		{"{a a:c a:s}", "1:2 1:4; 1:2 1:8; 1:4 1:8"},
		{"{q{a} q{a:c}}", "1:2 1:7; 1:4 1:9"},
		{"{...F} fragment F on Query{...F a a:c}", "1:33 1:35"},
	})
	checkRows(t, chapter, shapes, []row{
		{"{b{... on Query{k:b{x:a}} ... on T{k:b{x:n}}}}", "1:17 1:36; 1:21 1:40"},
	})
}

// P18.1: which fields are of one selection set.
func TestPairsOfOneSet(t *testing.T) {
	checkRows(t, chapter, pairs, []row{
		{"{a}", ""},
		{"{a n}", ""},
		{"{a a a}", "1:2 1:4; 1:2 1:6; 1:4 1:6"},
		{"{k:a k:n}", "1:2 1:6"},
		{"{a:n n:a}", ""},
		{"{a:n a}", "1:2 1:6"},
		{"{a b{a}}", ""},
		{"{q{q{a}} b{a}}", ""},
		{"{a ...{a ... on I{a}} ... on Nope{a}}", "1:2 1:8; 1:2 1:19; 1:2 1:35; 1:8 1:19; 1:8 1:35; 1:19 1:35"},
		{"query A{a} query B{a} {a} mutation{a}", ""},
		{"{a} fragment F on Query{n n}", "1:25 1:27"},
		{"{a a{b b}}", "1:2 1:4; 1:6 1:8"},
		{"{z z ...on Nope{z}}", "1:2 1:4; 1:2 1:17; 1:4 1:17"},
		{"mutation{z z}", "1:10 1:12"},
	})
}

// P18.1: a fragment's fields stand wherever it is spread.
func TestPairsOfFragments(t *testing.T) {
	checkRows(t, chapter, pairs, []row{
		{"{...F ...F} fragment F on Query{a}", ""},
		{"{a ...F q{a ...F}} fragment F on Query{a}", "1:2 1:40; 1:11 1:40"},
		{"query A{a ...F} query B{a ...F} fragment F on Query{a}", "1:9 1:53; 1:25 1:53"},
		{"{a ...F} fragment F on Query{n} fragment F on Query{a a}", "1:53 1:55"},
		{"{a ...Nope}", ""},
		{"{...F ...G} fragment F on Query{a} fragment G on T{a}", "1:33 1:52"},
		{"{...F} fragment F on Query{a ...G} fragment G on Query{a ...H} fragment H on Query{a}", "1:28 1:56; 1:28 1:84; 1:56 1:84"},
		{"{q{...F} q{...G}} fragment F on Query{a} fragment G on Query{a}", "1:2 1:10; 1:39 1:62"},
		{"{q{...F}} fragment F on Query{a q{...F a}}", "1:31 1:40"},
		{"fragment F on Query{a ...G} fragment G on Query{a ...F}", "1:21 1:49"},
		{"{...F} fragment F on Query{q{...F} q{a}}", "1:28 1:36"},
		{"{q{...F} q{...G}} fragment F on Query{q{a}} fragment G on Query{q{...F}}", "1:2 1:10; 1:39 1:65"},
	})
}

// P18.1: pairs beneath pairs, if these may meet.
func TestPairsBeneath(t *testing.T) {
	checkRows(t, chapter, pairs, []row{
		{"{q{b{a}} q{b{a}}}", "1:2 1:10; 1:4 1:12; 1:6 1:14"},
		{"{q{a a} q{a}}", "1:2 1:9; 1:4 1:6; 1:4 1:11; 1:6 1:11"},
		{"{k:q{a} k:b{a}}", "1:2 1:9; 1:6 1:13"},
		{"{b{... on I{k:b{a}} ... on T{k:b{a}}}}", "1:13 1:30; 1:17 1:34"},
		{"{b{... on T{k:b{a}} ... on T{k:b{a}}}}", "1:13 1:30; 1:17 1:34"},
		{"{b{... on Nope{k:b{a}} ... on T{k:b{a}}}}", "1:16 1:33; 1:20 1:37"},
		{"{b{... on T{k:b{a}} ... on Query{k:b{a}}}}", "1:13 1:34"},
		{"{b{... on T{k:b{a}} ... on Query{k:b{a}} ... on I{k:b{a}}}}", "1:13 1:34; 1:13 1:51; 1:17 1:55; 1:34 1:51; 1:38 1:55"},
		{"{a{k{a}} a{k{a}}}", "1:2 1:10; 1:4 1:12; 1:6 1:14"},
	})
	checkRows(t, chapter, shapes, []row{
		{"{q{b{a}} q{b{a}}}", "1:2 1:10; 1:4 1:12; 1:6 1:14"},
		{"{b{... on T{k:b{a}} ... on Query{k:b{a}}}}", "1:13 1:34; 1:17 1:38"},
		{"{b{... on T{k:b{a}} ... on Query{k:b{a}} ... on I{k:b{a}}}}", "1:13 1:34; 1:13 1:51; 1:17 1:38; 1:17 1:55; 1:34 1:51; 1:38 1:55"},
		{"{b{... on T{k:b{b{a}}} ... on Query{k:b{b{a}}}}}", "1:13 1:37; 1:17 1:41; 1:19 1:43"},
	})
}

// P18.3: whose places are told: those of the smallest node that a node clashes with.
func TestSmallestNode(t *testing.T) {
	checkRows(t, chapter, check, []row{
		{"{a:c a a:c a}", "1:2 1:6; 1:2 1:12; 1:6 1:8"},
		{"{a a a:s}", "1:2 1:6"},
		{"{a:s a a}", "1:2 1:6; 1:2 1:8"},
		{"{q{a} q{a} q{a:c}}", "1:4 1:14"},
		{"{q{a:c} q{a} q{a}}", "1:4 1:11; 1:4 1:16"},
		// by the shape with the first, by the name with the second, and the other way about
		{"{b{... on T{k:n} ... on Query{k:c} ... on Query{k:a}}}", "1:13 1:31; 1:13 1:49"},
		{"{b{... on Query{k:c} ... on T{k:n} ... on Query{k:a}}}", "1:17 1:31; 1:17 1:49"},
		{"{b{... on T{k:n} ... on Query{k:a} ... on Query{k:n}}}", "1:13 1:31; 1:31 1:49"},
		{"{b{... on T{k:s} ... on Query{k:n} ... on Query{k:a}}}", "1:13 1:31; 1:31 1:49"},
		{"{...F a:c} fragment F on Query{a}", "1:7 1:32"},
		{"{\n  a\n  a: c\n}", "2:3 3:3"},
	})
}

// P18.3: fields agree, or they don't.
func TestAgreement(t *testing.T) {
	checkRows(t, zoo, check, []row{
		{"{x x @skip(if: true)}", ""},
		{"{f(i: 1) {x} f(i: 1) {x}}", ""},
		{"{f(i: $v) {x} f(i: $v) {x}}", ""},
		{"{f(i: $v) {x} f(i: $w) {x}}", "1:2 1:15"},
		{"{f(i: $v) {x} f(i: v) {x}}", "1:2 1:15"},
		{`{f(v: "a") {x} f(v: """a""") {x}}`, ""},
		{"{f(s: 1) {x} f(s: 1.0) {x} f(s: \"1\") {x}}", "1:2 1:14; 1:2 1:28"},
		{"{f(s: true) {x} f(s: false) {x} f(s: null) {x} f(s: true) {x}}", "1:2 1:17; 1:2 1:33; 1:17 1:48"},
		{"{f(l: [1 2]) {x} f(l: [1, 2]) {x}}", ""},
		{"{f(l: [1 2]) {x} f(l: [2 1]) {x}}", "1:2 1:18"},
		{"{f(l: [1]) {x} f(l: 1) {x}}", "1:2 1:16"},
		{"{f(j: {a: 1 b: {c: [] d: \"\"}}) {x} f(j: {b: {d: \"\" c: []} a: 1}) {x}}", ""},
		{"{f(j: {a: 1 b: {c: [] d: \"\"}}) {x} f(j: {b: {d: \"\" c: null} a: 1}) {x}}", "1:2 1:36"},
		{"{f(j: {a: 1}) {x} f(j: {a: 1 a: 1}) {x}}", "1:2 1:19"},
		{"{f(i: 1 l: 2) {x} f(l: 2 i: 1) {x}}", ""},
		{"{f(i: 1 l: 2) {x} f(i: 2 l: 1) {x}}", "1:2 1:19"},
		{"{f(i: 1 i: 2) {x} f(i: 2 i: 1) {x}}", ""},
		{"{f(i: 1 i: 1 i: 2) {x} f(i: 2 i: 1 i: 2) {x}}", ""},
		{"{f(i: 1 i: 1) {x} f(i: 1) {x}}", "1:2 1:19"},
		{"{f(i: 1 i: 2) {x} f(i: 1 i: 1) {x}}", "1:2 1:19"},
		{"{nope(i: 1) nope(i: 2)}", "1:2 1:13"},
		{"{k: nope k: x}", "1:2 1:10"},
		{"{k: __typename k: __typename}", ""},
		{"{k: __typename k: x}", "1:2 1:16"},
		{"mutation {k: o {x} k: x}", "1:11 1:20"},
		{"subscription {k: a k: b}", "1:15 1:20"},
		{"{u {... on O {k: f(i: 1) {p {g}}} ... on P {k: f {g}}}}", ""},
		{"{n {... on O {k: n {__typename}} ... on N {k: n(k: 1) {__typename}}}}", "1:15 1:44"},
		{"{u {... on U {k: __typename} ... on W {k: x} ... on V {k: x}}}", "1:15 1:40; 1:15 1:56"},
	})
}

// P18.3: fields have one shape, or they haven't, whether they may meet or not.
func TestShapesOfFields(t *testing.T) {
	checkRows(t, zoo, check, []row{
		{"{u {... on O {x} ... on V {x}}}", "1:15 1:28"},
		{"{u {... on O {k: y} ... on P {k: y}}}", "1:15 1:31"},
		{"{u {... on O {k: y} ... on Root {k: y}}}", ""},
		{"{u {... on O {k: y} ... on Root {k: z}}}", "1:15 1:34"},
		{"{u {... on O {k: e} ... on P {k: e}}}", "1:15 1:31"},
		{"{u {... on Root {k: e} ... on P {k: e}}}", "1:18 1:34"},
		{"{u {... on P {k: e} ... on V {k: e}}}", "1:15 1:31"},
		{"{u {... on O {k: self} ... on P {k: self} ... on Root {k: n} ... on V {k: v} ... on O {k: self}}}", ""},
		{"{u {... on Root {k: u} ... on V {k: o}}}", ""},
		{"{u {... on Root {k: u} ... on O {k: u}}}", "1:18 1:34"},
		{"{u {... on O {k: o} ... on P {k: p}}}", "1:15 1:31"},
		{"{u {... on Root {k: self} ... on V {k: n}}}", "1:18 1:37"},
		{"{u {... on O {k: nope} ... on P {k: x}}}", ""},
		{"{u {... on O {k: x} ... on P {k: nope} ... on V {k: x}}}", "1:15 1:50"},
		{"{u {... on P {k: self {l: x}} ... on V {k: v {l: x}}}}", "1:24 1:47"},
		{"{u {... on P {k: self {k: self {l: x}}} ... on V {k: v {k: v {l: x}}}}}", "1:33 1:63"},
		{"{u {...F ... on V {k: v {...G}}}} fragment F on P {k: self {...H}} fragment G on V {l: x} fragment H on P {l: x}", "1:85 1:108"},
	})
}

// R1: a nil sheet, a sheet of nothing, and a sheet that wasn't laid.
func TestNoSheet(t *testing.T) {
	for _, s := range []*scope.Sheet{nil, {}, scope.Lay(nil, api.Document{}), scope.Lay(sound(t, zoo), api.Document{})} {
		if got := len(overlap.Pairs(s)) + len(overlap.Shapes(s)) + len(overlap.Check(s)); got != 0 {
			t.Error("something in nothing:", got)
		}
		for _, i := range oddNumbers() {
			if overlap.Alike(s, 0, i) || overlap.Alike(s, i, 0) || overlap.OneShape(s, 0, i) || overlap.OneShape(s, i, 0) {
				t.Error("nodes in nothing:", i)
			}
		}
	}
}
