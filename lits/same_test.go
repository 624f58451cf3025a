package lits_test

import (
	"fmt"
	"strings"
	"testing"

	"pergola/api"
	"pergola/lits"
)

// checkSame holds two literals against each other, both ways and within other literals.
func checkSame(t *testing.T, a, b string, want bool) {
	t.Helper()
	for _, form := range []string{"#", "[#]", "{a: #}", "[1 # {}]", "{b: [#] a: 2}"} {
		one, two := lit(t, strings.Replace(form, "#", a, 1)), lit(t, strings.Replace(form, "#", b, 1))
		if lits.Same(one, two) != want || lits.Same(two, one) != want || !lits.Same(one, one) || !lits.Same(two, two) {
			t.Errorf("Same of %q and %q within %q: want %v", a, b, form, want)
		}
	}
}

// P13.3: no two of these are the same, and each is the same as itself.
func TestUnlike(t *testing.T) {
	all := []string{
		"1", "1.0", "1.00", "1e0", "1E0", "-1", "0", "-0", "0.0", "-0.0", "10", `"1"`, `""`, `"a"`, `"A"`, "a", "A", "$a", "$A", "true", "false", `"true"`, "null", `"null"`, "Null",
		"[]", "{}", "[[]]", "[{}]", "[1]", "[1 2]", "[2 1]", "[1 1]", "[1 2 3]", "[[1 2]]", "[[1] [2]]", "[1.0]", "[null]", "[$a]",
		"{a: 1}", "{b: 1}", "{a: 2}", "{a: 1 b: 2}", "{a: 2 b: 1}", "{a: 1 a: 2}", "{a: 1 a: 1}", "{a: 1 a: 1 a: 2}", "{a: 1 a: 2 a: 2}", "{a: 1 a: 2 b: 1}", "{a: 1 b: 2 b: 1}", "{a: [1 2]}", "{a: [2 1]}", "{a: {}}", "{a: {a: 1}}", "{a: {b: 1} b: {a: 1}}", "{a: {a: 1} b: {b: 1}}", "{a: null}", "{a: $a}", "{A: 1}", `{a: "1"}`,
	}
	for i, a := range all {
		for j, b := range all {
			checkSame(t, a, b, i == j)
		}
	}
}

// P13.3: these say the same.
func TestAlike(t *testing.T) {
	for _, c := range [][2]string{
		{`"a"`, `"""a"""`}, {`""`, `""""""`}, {`"\u0041"`, `"A"`}, {`"a\nb"`, "\"\"\"a\n  b\"\"\""}, {`"a\nb"`, "\"\"\"\n  a\n  b\n  \"\"\""},
		{"[1 2]", "[ 1,\n2 ]"}, {"{a: 1 b: [2]}", "{b: [2] a: 1}"}, {"{a: 1 b: 2 c: 3}", "{c: 3 a: 1 b: 2}"},
		{"{a: 1 a: 2}", "{a: 2 a: 1}"}, {"{a: 1 b: 3 a: 2}", "{a: 2 a: 1 b: 3}"}, {"{a: 1 a: 1 a: 2}", "{a: 1 a: 2 a: 1}"},
		{"{a: {x: 1 y: 2} a: {y: 3 x: 4}}", "{a: {x: 4 y: 3} a: {y: 2 x: 1}}"},
		{"{a: [{x: 1 y: 2}] a: [{y: 3 x: 4}]}", "{a: [{x: 4 y: 3}] a: [{y: 2 x: 1}]}"},
		{"{a: {a: 1 a: 2} a: {a: 2 a: 1} a: {}}", "{a: {a: 1 a: 2} a: {} a: {a: 1 a: 2}}"},
		{"[{a: 1 b: 2} {b: 1 a: 2}]", "[{b: 2 a: 1} {a: 2 b: 1}]"},
		{"{a: $v b: $w}", "{b: $w a: $v}"}, {"{a: null a: 1}", "{a: 1 a: null}"}, {`{a: "x" a: """y"""}`, `{a: "y" a: """x"""}`},
	} {
		checkSame(t, c[0], c[1], true)
	}
	for _, c := range [][2]string{
		{"{a: {x: 1 y: 2} a: {y: 3 x: 4}}", "{a: {x: 4 y: 2} a: {y: 3 x: 1}}"}, {"{a: 1 a: 2 b: 1}", "{a: 1 b: 2 b: 1}"}, {"{a: 1 b: 2}", "{a: 1 b: 2 b: 2}"},
		{"{a: 1 a: 2 a: 2}", "{a: 2 a: 1 a: 1}"}, {"[{a: 1} {b: 2}]", "[{b: 2} {a: 1}]"}, {`"a"`, `" a"`}, {`"a\r"`, `"a\n"`},
	} {
		checkSame(t, c[0], c[1], false)
	}
}

// small are all literals of some leaves with at most that many parts.
func small(size int) []string {
	if size < 1 {
		return nil
	}
	out := []string{"1", "X"}
	for _, inner := range rows(size - 1) {
		out = append(out, "["+strings.Join(inner, " ")+"]")
		for names := range 1 << len(inner) {
			text := ""
			for i, v := range inner {
				text += string("ab"[names>>i&1]) + ": " + v + " "
			}
			out = append(out, "{"+text+"}")
		}
	}
	return out
}

// rows are all lists of literals with at most that many parts in all.
func rows(size int) [][]string {
	out := [][]string{nil}
	for first := 1; first <= size; first++ {
		for _, v := range small(first) {
			if partsOf(v) != first {
				continue
			}
			for _, rest := range rows(size - first) {
				out = append(out, append([]string{v}, rest...))
			}
		}
	}
	return out
}

func partsOf(v string) int {
	return strings.Count(v, "[") + strings.Count(v, "{") + strings.Count(v, "1") + strings.Count(v, "X")
}

// paired tries all pairings, as the chapter says it.
func paired(a, b []api.LitField) bool {
	if len(a) == 0 || len(b) == 0 {
		return len(a) == len(b)
	}
	for i, f := range b {
		rest := append(append([]api.LitField(nil), b[:i]...), b[i+1:]...)
		if f.Name == a[0].Name && saysSame(a[0].Value, f.Value) && paired(a[1:], rest) {
			return true
		}
	}
	return false
}

func saysSame(a, b api.Lit) bool {
	if a.Kind != b.Kind {
		return false
	}
	switch a.Kind {
	case api.LitNull:
		return true
	case api.LitList:
		for i := range min(len(a.Items), len(b.Items)) {
			if !saysSame(a.Items[i], b.Items[i]) {
				return false
			}
		}
		return len(a.Items) == len(b.Items)
	case api.LitObject:
		return paired(a.Fields, b.Fields)
	}
	return a.Text == b.Text
}

// P13.3: every pair of small literals.
func TestSameOfAllSmall(t *testing.T) {
	var all []api.Lit
	for _, text := range small(4) {
		all = append(all, lit(t, text))
	}
	if len(all) < 500 {
		t.Fatal(len(all))
	}
	met := 0
	for _, a := range all {
		for _, b := range all {
			same := lits.Same(a, b)
			if same != saysSame(a, b) {
				t.Fatalf("%v and %v: %v", a, b, same)
			}
			if same {
				met++
			}
		}
	}
	if met <= len(all) {
		t.Error("same but not equal:", met-len(all))
	}
}

// P13.3: what isn't part of the words isn't looked at: places, Block, fields that the kind doesn't use.
func TestSameLooksAtWordsAlone(t *testing.T) {
	extra := api.Lit{Text: "x", Block: true, Items: []api.Lit{{Kind: api.LitVar}}, Fields: []api.LitField{{Name: "f"}}, Pos: api.Pos{Line: 3, Col: 4}}
	for kind := api.LitVar; kind <= api.LitObject; kind++ {
		one, two := api.Lit{Kind: kind}, extra
		two.Kind = kind
		switch kind {
		case api.LitNull:
		case api.LitList:
			two.Items = nil
		case api.LitObject:
			two.Fields = nil
		default:
			two.Text = ""
		}
		if !lits.Same(one, two) || !lits.Same(two, one) {
			t.Error("kind", kind)
		}
	}
}

// Objects of many fields of one name, nested, are held against each other in good time.
func TestSameOfManyFields(t *testing.T) {
	nest := func(order int) string {
		v := "1"
		for range 12 {
			v = []string{"{a: " + v + " a: {b: 2 a: " + v + "}}", "{a: {a: " + v + " b: 2} a: " + v + "}"}[order]
		}
		return v
	}
	checkSame(t, nest(0), nest(1), true)
	wide := func(from, step int, last string) string {
		var out strings.Builder
		for i := range 2000 {
			fmt.Fprintf(&out, "a: [%d %d] ", (from+i*step)%2000, 5)
		}
		return "{" + out.String() + last + "}"
	}
	checkSame(t, wide(0, 1, ""), wide(77, 1999, ""), true)
	checkSame(t, wide(0, 1, "a: X"), wide(77, 1999, "a: X"), true)
	checkSame(t, wide(0, 1, "a: X"), wide(77, 1999, "a: Y"), false)
}
