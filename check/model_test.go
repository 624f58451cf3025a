package check_test

import (
	"math"
	"slices"
	"testing"

	"pergola/api"
	"pergola/check"
	"pergola/fields"
	"pergola/frags"
	"pergola/overlap"
	"pergola/scope"
	"pergola/typesys"
	"pergola/vars"
)

// isAhead: does a fault come ahead of another by DOC.md's words?
func isAhead(a, b api.Fault) bool {
	if a.Kind != b.Kind {
		return a.Kind < b.Kind
	}
	for i, p := range a.Pos {
		switch {
		case i == len(b.Pos):
			return false
		case p.Line != b.Pos[i].Line:
			return p.Line < b.Pos[i].Line
		case p.Col != b.Pos[i].Col:
			return p.Col < b.Pos[i].Col
		}
	}
	return len(a.Pos) < len(b.Pos)
}

// insert puts a fault into its place among others, unless it is there.
func insert(list []api.Fault, f api.Fault) []api.Fault {
	i := 0
	for i < len(list) && isAhead(list[i], f) {
		i++
	}
	if i < len(list) && !isAhead(f, list[i]) {
		return list
	}
	return slices.Insert(list, i, f)
}

// modelAll is a second way: one call behind the other, each over a sheet of its own, and each fault put into its place.
func modelAll(types *typesys.Types, doc api.Document) []api.Fault {
	var all []api.Fault
	for _, call := range []func(*scope.Sheet) []api.Fault{
		vars.Check, frags.Check, overlap.Check, fields.Directives, fields.Values, fields.Arguments, fields.Selections, fields.Operations,
	} {
		for _, f := range call(scope.Lay(types, doc)) {
			all = insert(all, f)
		}
	}
	return all
}

// modelDeep is a second way: the fragments are put in the place of their spreads, and then the depth is that of the braces.
func modelDeep(doc api.Document, def int) (int, bool) {
	if def < 0 || def >= len(doc.Defs) {
		return 0, false
	}
	sels, ok := put(doc, doc.Defs[def].Sels, []int{def})
	if !ok {
		return 0, false
	}
	return height(sels), true
}

// put is selections as fields alone. The definitions in whose place they stand are within; false, if one would have to be put into itself, or a spread means none.
func put(doc api.Document, sels []api.Sel, within []int) ([]api.Sel, bool) {
	var out []api.Sel
	for _, sel := range sels {
		inner, into := sel.Sels, within
		if sel.Kind == api.SelSpread {
			target := slices.IndexFunc(doc.Defs, func(d api.Def) bool { return d.Kind == api.DefFragment && d.Name == sel.Name })
			if target < 0 || slices.Contains(within, target) {
				return nil, false
			}
			inner, into = doc.Defs[target].Sels, append(slices.Clone(within), target)
		}
		made, ok := put(doc, inner, into)
		if !ok {
			return nil, false
		}
		if sel.Kind == api.SelField {
			made = []api.Sel{{Sels: made}}
		}
		out = append(out, made...)
	}
	return out, true
}

func height(sels []api.Sel) int {
	most := 0
	for _, sel := range sels {
		most = max(most, 1+height(sel.Sels))
	}
	return most
}

// holdDeep holds Deep of every number against the model.
func holdDeep(t *testing.T, name string, doc api.Document) {
	t.Helper()
	numbers := []int{math.MinInt, -2, -1, len(doc.Defs), len(doc.Defs) + 1, math.MaxInt}
	for def := range doc.Defs {
		numbers = append(numbers, def)
	}
	for _, def := range numbers {
		got, want := depthText(check.Deep(doc, def)), depthText(modelDeep(doc, def))
		if got != want {
			t.Errorf("%s: Deep of number %d: got %s, want %s", name, def, got, want)
		}
	}
}

// hold holds both calls against the models, and answers what All answers.
func hold(t *testing.T, name string, types *typesys.Types, doc api.Document) []api.Fault {
	t.Helper()
	faults := check.All(types, doc)
	if got, want := told(faults), told(modelAll(types, doc)); got != want {
		t.Errorf("%s: All: got %s, want %s", name, got, want)
	}
	holdDeep(t, name, doc)
	return faults
}
