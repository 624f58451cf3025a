package collect_test

import (
	"math/rand"
	"slices"
	"strconv"
	"strings"
	"testing"

	"pergola/api"
	"pergola/check"
	"pergola/collect"
	"pergola/printer"
)

// P24.1 to P24.4: valid documents by chance, held against the model.
func TestMadeByChance(t *testing.T) {
	types := sound(t, zoo)
	merged, long, unlike := 0, 0, 0
	for seed := range int64(2500) {
		m := &maker{r: rand.New(rand.NewSource(seed)), types: types}
		src := m.document()
		doc := valid(t, types, src)
		given := m.given()
		for _, op := range []int{0, len(doc.Defs) - 1} {
			what := src + " with " + given + ", operation " + strconv.Itoa(op)
			_, got := hold(t, what, types, doc, op, variables(t, types, doc, op, given))
			for _, groups := range append(got.Subs, got.Root) {
				if len(groups) > 3 {
					long++
				}
				if slices.ContainsFunc(groups, func(g api.Group) bool { return len(g.Nodes) > 2 }) {
					merged++
				}
				if slices.ContainsFunc(groups, func(g api.Group) bool { return !slices.IsSorted(g.Nodes) }) {
					unlike++
				}
			}
		}
		if t.Failed() {
			return
		}
	}
	if merged < 3000 || long < 3000 || unlike < 300 {
		t.Error("too few:", merged, long, unlike)
	}
}

// P24.3: lists of numbers by chance, some of no field or no node, and some twice.
func TestSubOfListsByChance(t *testing.T) {
	types := sound(t, zoo)
	for seed := range int64(800) {
		m := &maker{r: rand.New(rand.NewSource(seed)), types: types}
		src := m.document()
		doc := valid(t, types, src)
		vars := variables(t, types, doc, 0, m.given())
		p, second := collect.New(types, doc, 0, vars), newModel(types, doc, 0, vars)
		for range 30 {
			var nodes []int
			for range m.r.Intn(7) {
				nodes = append(nodes, m.r.Intn(len(second.flat)+4)-2)
			}
			object := oneOf(m, names(types)...)
			if m.chance(2) {
				object = oneOf(m, "Query", "O", "P")
			}
			alike(t, "Sub of "+object+" in "+src, p.Sub(object, nodes), second.sub(object, nodes))
		}
		if t.Failed() {
			return
		}
	}
}

// All documents of three selections out of a few, in the braces of a field, with fragments that spread one another.
func TestAllSmall(t *testing.T) {
	types := sound(t, zoo)
	const head = "query ($t: Boolean = true) @uses(of: [$t]) {i {"
	const rest = "} ...F ...G u {...H}} fragment F on I {a ...G} fragment G on I {... on O {b a} ...H b1: b} fragment H on U {__typename ... on P {a}}"
	some := []string{"a", "b", "a @skip(if: $t)", "...F", "...G", "...H", "...F @include(if: $t)", "...G @skip(if: $t)", "... on O {b ...H}", "... on P {...G a}", "... {a ...F}", "... on U @skip(if: $t) {...F}", "i {a}"}
	for _, one := range some {
		for _, two := range some {
			for _, three := range some {
				src := head + one + " " + two + " " + three + rest
				doc := parse(t, src)
				for _, given := range []string{`{"t":null}`, `{}`} {
					vars := variables(t, types, doc, 0, given)
					p, m := collect.New(types, doc, 0, vars), newModel(types, doc, 0, vars)
					for _, object := range []string{"O", "P", "Query"} {
						if got, want := told(p.Sub(object, []int{0})), told(m.sub(object, []int{0})); got != want {
							t.Fatalf("%s with %s, %s: got %s, want %s", src, given, object, got, want)
						}
					}
					if got, want := told(p.Root()), told(m.root()); got != want {
						t.Fatalf("%s with %s: got %s, want %s", src, given, got, want)
					}
				}
			}
		}
	}
	faults := check.All(types, parse(t, head+strings.Join(some, " ")+rest))
	if len(faults) > 0 {
		t.Error("the small documents are not valid:", faults)
	}
}

// inlined is a document whose fragments stand in the places of their spreads.
func inlined(doc api.Document) api.Document {
	var out api.Document
	for _, def := range doc.Defs {
		if def.Kind != api.DefFragment {
			def.Sels = inlinedSels(doc, def.Sels)
			out.Defs = append(out.Defs, def)
		}
	}
	return out
}

func inlinedSels(doc api.Document, sels []api.Sel) []api.Sel {
	var out []api.Sel
	for _, sel := range sels {
		if sel.Kind == api.SelSpread {
			i := slices.IndexFunc(doc.Defs, func(d api.Def) bool { return d.Kind == api.DefFragment && d.Name == sel.Name })
			sel = api.Sel{Kind: api.SelInline, On: doc.Defs[i].On, Dirs: sel.Dirs, Sels: doc.Defs[i].Sels}
		}
		sel.Sels = inlinedSels(doc, sel.Sels)
		out = append(out, sel)
	}
	return out
}

// Fragments in the places of their spreads make no difference to the collected tree, for what is met a second time brings no new key and no other first node.
func TestInlinedIsTheSame(t *testing.T) {
	types := sound(t, zoo)
	great, unlike := 0, 0
	for seed := range int64(2000) {
		m := &maker{r: rand.New(rand.NewSource(seed)), types: types}
		doc := valid(t, types, m.document())
		src := printer.Document(inlined(doc))
		flat := valid(t, types, src)
		vars := variables(t, types, doc, 0, m.given())
		one, two := newTree(t, types, doc, 0, vars), newTree(t, types, flat, 0, vars)
		if one != two {
			t.Fatalf("%s and %s: %s and %s", printer.Document(doc), src, one, two)
		}
		if len(one) > 400 {
			great++
		}
		if len(flat.Defs) != len(doc.Defs) {
			unlike++
		}
	}
	if great < 100 || unlike < 1000 {
		t.Error("too few:", great, unlike)
	}
}

// Documents that the collected tree takes for the same, and such as it doesn't.
func TestTreesOfPairs(t *testing.T) {
	types := sound(t, zoo)
	const head = "query ($t: Boolean = true $i: Int = 1) @uses(of: [$t] i: $i) "
	for _, r := range []struct {
		one, two string
		isSame   bool
	}{
		{"{a b}", "{a b a}", true},
		{"{a b}", "{b a}", false},
		{"{a b}", "{a: a b: b ... {a}}", true},
		{"{a b}", "{...F b} fragment F on I {a}", true},
		{"{a b}", "{...F a} fragment F on I {b}", false},
		{"{a}", "{a b @skip(if: $t)}", true},
		{"{a}", "{a b @include(if: $t)}", false},
		{"{q {a}}", "{q {a ... on I {a}}}", true},
		{"{q {a b}}", "{q {a} q {b}}", true},
		{"{q {a b}}", "{q {b} q {a}}", false},
		{"{a(x: 1)}", "{a(x: $i)}", true},
		{"{a(x: 2)}", "{a(x: $i)}", false},
		{"{a}", "{a(x: null)}", false},
		{"{a}", "{a: b}", false},
		{"{i {... on O {a} ... on P {a} ... on Query {a} ... on Change {a}}}", "{i {a}}", true},
		{"{i {... on O {a} ... on P {b}}}", "{i {... on P {b} ... on O {a}}}", true},
		{"{u {... on O {a b} ... on P {a}}}", "{u {... on I {a} ... on J {b}}}", true},
		{"{u {... on O {a b} ... on P {a}}}", "{u {... on I {a} ... on V {... on O {b}} ... on P {b}}}", false},
	} {
		one, two := valid(t, types, head+r.one), valid(t, types, head+r.two)
		vars := variables(t, types, one, 0, "{}")
		a, b := newTree(t, types, one, 0, vars), newTree(t, types, two, 0, vars)
		if (a == b) != r.isSame {
			t.Errorf("%s and %s: %s and %s", r.one, r.two, a, b)
		}
	}
}
