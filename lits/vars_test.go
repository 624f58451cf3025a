package lits_test

import (
	"fmt"
	"strings"
	"testing"

	"pergola/api"
	"pergola/lits"
)

func varsText(vars []api.Named) string {
	var all []string
	for _, v := range vars {
		all = append(all, fmt.Sprintf("%s %d:%d", v.Name, v.Pos.Line, v.Pos.Col))
	}
	return strings.Join(all, ", ")
}

// P13.4.
func TestVars(t *testing.T) {
	for _, c := range []struct{ lit, vars string }{
		{"{a: $v b: [$w $v]}", "v 1:5, w 1:12, v 1:15"},
		{"$v", "v 1:1"},
		{"\n  $ v", "v 2:3"},
		{"1", ""}, {"1.5", ""}, {`"$v"`, ""}, {`"""$v"""`, ""}, {"true", ""}, {"null", ""}, {"v", ""}, {"[]", ""}, {"{}", ""}, {"[[{a: [v]}]]", ""},
		{"[$a $a $a]", "a 1:2, a 1:5, a 1:8"},
		{"[$b 1 $a]", "b 1:2, a 1:7"},
		{"[[$c] {x: $b y: [{z: $a}]} $d]", "c 1:3, b 1:11, a 1:22, d 1:28"},
		{"{x: $a x: $b x: $a}", "a 1:5, b 1:11, a 1:17"},
		{"{b: {b: $b}\n a: {a: $a b: $null}}", "b 1:9, a 2:9, null 2:15"},
		{"[[[[[[$true]]]]] $fragment]", "true 1:7, fragment 1:18"},
	} {
		if got := varsText(lits.Vars(lit(t, c.lit))); got != c.vars {
			t.Errorf("Vars of %q: got %q, want %q", c.lit, got, c.vars)
		}
	}
}

// P13.2, P13.4: a literal has a value only if it has no variables, anywhere.
func TestVarsHaveNoValue(t *testing.T) {
	types := build(t, chapter)
	for _, c := range []row{
		{"$v", "Int", "", ""}, {"$v", "[Int!]!", "", ""}, {"[1 [2 $v]]", "[[Int]]", "", ""}, {"{a: 1 b: {a: $v}}", "I", "", ""}, {"{a: 1 c: [$v]}", "I", "", ""}, {"{a: 1 c: $v}", "I", "", ""},
		{"$v", "S", "", ""}, {"[$v]", "S", "", ""}, {"{a: [{b: $v}]}", "S", "", ""}, {"$v", "E", "", ""}, {"[{a: $v}]", "T", "", ""}, {"{r: $v}", "R", "", ""},
		{"{a: $v a: $w z: $x}", "I", "none 1:14; same 1:2 1:8", ""},
	} {
		checkRows(t, types, []row{c})
		if len(lits.Vars(lit(t, c.lit))) == 0 {
			t.Error("no variable:", c.lit)
		}
	}
}
