package scope_test

import (
	"math/rand"
	"testing"

	"pergola/api"
	"pergola/lits"
	"pergola/scope"
	"pergola/typesys"
)

// P16.1 to P16.4: type systems and documents by chance, held against the model.
func TestMadeByChance(t *testing.T) {
	var typed, untyped, preset, known, unknown, lost, marks, reached int
	for seed := range int64(400) {
		m := &maker{r: rand.New(rand.NewSource(seed))}
		src := m.system()
		types := sound(t, src)
		for range 10 {
			doc := m.document(types)
			a := hold(t, src+"\n"+doc, types, parse(t, doc))
			for _, u := range a.Uses {
				count(u.Typed, &typed, &untyped)
				count(u.HasDefault, &preset, new(int))
			}
			for _, n := range a.Nodes {
				count(n.Known, &known, &unknown)
				count(n.Parent == "", &lost, new(int))
			}
			marks += len(a.Marks)
			for _, r := range a.Reach {
				count(len(r) > 1, &reached, new(int))
			}
			if t.Failed() {
				return
			}
		}
	}
	for _, n := range []int{typed, untyped, preset, known, unknown, lost, marks, reached} {
		if n < 500 {
			t.Error("too few of a kind:", typed, untyped, preset, known, unknown, lost, marks, reached)
			break
		}
	}
}

func count(is bool, yes, no *int) {
	if is {
		*yes++
	} else {
		*no++
	}
}

// P16.2: the documents of the other tests, held against the model.
func TestFixedDocuments(t *testing.T) {
	docs := []string{
		"{a z: q {u {__typename a}}}", "{a {a} nix {a} ... {a} ... on I {a} ...F}",
		"query ($v: Int = 1 @m(k: 2)) @skip(if: $w) {q(x: {c: [{b: $v}]} s: [$v] y: $v) {a}}",
		"query {...A} fragment A on Query {...B} fragment B on Query {a ...A} fragment A on U {...C}",
		"mutation {a} subscription {a}", "fragment F on I {b}",
	}
	for _, types := range []string{chapter, zoo, wants, "type Query {a: Int}", "type Q {a: Q} schema {query: Q subscription: Q2} type Q2 {a: Int}"} {
		for _, doc := range docs {
			hold(t, types+"\n"+doc, sound(t, types), parse(t, doc))
		}
	}
}

// probes are literals that tell types apart by their faults.
func probes(t testing.TB) []api.Lit {
	var out []api.Lit
	for _, src := range []string{"null", "1", `"s"`, "true", "A", "1.5", "[]", "{}", "[null]", "[[1]]", "[A]", "{a0: null}", "{a0: [1] a1: {} b: A}", "{b: null b: 1}", "[1e400]", "1e400"} {
		doc := parse(t, "\n\n\n\n\n{a(a: "+src+")}")
		out = append(out, doc.Defs[0].Sels[0].Args[0].Value)
	}
	return out
}

// swapped is a literal in which another stands in the place of the variable at a place.
func swapped(v api.Lit, at api.Pos, in api.Lit) api.Lit {
	if v.Kind == api.LitVar && v.Pos == at {
		return in
	}
	items, fields := v.Items, v.Fields
	v.Items, v.Fields = nil, nil
	for _, item := range items {
		v.Items = append(v.Items, swapped(item, at, in))
	}
	for _, field := range fields {
		field.Value = swapped(field.Value, at, in)
		v.Fields = append(v.Fields, field)
	}
	return v
}

// within are the faults that stand in a probe, which is known by its line.
func within(faults []api.Fault) []api.Fault {
	var out []api.Fault
	for _, f := range faults {
		if f.Pos[0].Line >= 6 {
			out = append(out, f)
		}
	}
	return out
}

// P16.2: what layer 13 finds wrong with a literal that stands in a variable's place is what it finds wrong with it at the type that the sheet gives the place; an untyped place is one at which nothing is asked, or one within a custom scalar.
func TestPlacesAreThoseOfLayer13(t *testing.T) {
	asked := 0
	all := probes(t)
	for seed := range int64(60) {
		m := &maker{r: rand.New(rand.NewSource(1000 + seed))}
		types := sound(t, m.system())
		m.types = types
		for range 40 {
			name := m.oneOf("Int E S P0 P1 P2 P0 P1")
			want := api.TypeRef{Name: name, Wrap: []string{"", "!", "]", "!]", "]!]"}[m.r.Intn(5)]}
			lit := parse(t, "{a(a: "+m.literal(want, 5, false)+")}").Defs[0].Sels[0].Args[0].Value
			for _, use := range usesAt(types, lit, want) {
				for _, probe := range all {
					asked++
					got := within(lits.Check(types, swapped(lit, use.Pos, probe), want))
					if use.Typed {
						alike(t, "a typed place", got, within(lits.Check(types, probe, use.Type)))
						continue
					}
					open, custom := lits.Check(types, probe, api.TypeRef{}), lits.Check(types, probe, api.TypeRef{Name: "S"})
					if len(got) != len(open) && len(got) != len(custom) {
						t.Errorf("an untyped place in %v at %v: %v", lit, want, got)
					}
				}
			}
			if t.Failed() {
				return
			}
		}
	}
	if asked < 20000 {
		t.Error("too few places:", asked)
	}
}

// usesAt are the uses in a literal at a type, of a sheet that has nothing else.
func usesAt(types *typesys.Types, lit api.Lit, want api.TypeRef) []api.Use {
	defs := []api.SysDef{{Kind: api.SysDirective, Name: "probe", Inputs: []api.InputDef{{Name: "x", Type: want}}}}
	for _, name := range types.Names() {
		def, _ := types.Type(name)
		defs = append(defs, def)
	}
	doc := api.Document{Defs: []api.Def{{Kind: api.DefQuery, Dirs: []api.Dir{{Name: "probe", Args: []api.Arg{{Name: "x", Value: lit}}}}}}}
	return scope.Lay(typesys.Build(defs), doc).Uses()
}
