package frags_test

import (
	"slices"
	"testing"

	"pergola/api"
	"pergola/frags"
	"pergola/scope"
	"pergola/tree"
	"pergola/typesys"
)

// model is a second way: it has no sheet and asks the type system for definitions alone, goes through the document for each row of the chapter's table anew, and holds each thing against each.
type model struct {
	types *typesys.Types
	doc   api.Document
}

// tell takes a fault.
type tell func(kind api.Errno, places ...api.Pos)

func (m model) kind(name string) api.SysKind {
	def, _ := m.types.Type(name)
	return def.Kind
}

func (m model) isComposite(name string) bool {
	kind := m.kind(name)
	return kind == api.SysObject || kind == api.SysInterface || kind == api.SysUnion
}

func (m model) ifComposite(name string) string {
	if m.isComposite(name) {
		return name
	}
	return ""
}

// mayBe: may a value of a composite type be of an object type?
func (m model) mayBe(name, object string) bool {
	def, _ := m.types.Type(name)
	switch def.Kind {
	case api.SysObject:
		return name == object
	case api.SysUnion:
		return slices.ContainsFunc(def.Members, func(n api.Named) bool { return n.Name == object })
	}
	of, _ := m.types.Type(object)
	return slices.ContainsFunc(of.Ifaces, func(n api.Named) bool { return n.Name == name })
}

func (m model) isApart(a, b string) bool {
	for _, name := range m.types.Names() {
		if m.kind(name) == api.SysObject && m.mayBe(a, name) && m.mayBe(b, name) {
			return false
		}
	}
	return true
}

// eachSel goes through all selections, each with the number of its definition and the type in whose scope it stands.
func (m model) eachSel(do func(sel api.Sel, def int, in string)) {
	for i, d := range m.doc.Defs {
		var braces func(sels []api.Sel, in string)
		braces = func(sels []api.Sel, in string) {
			for _, sel := range sels {
				do(sel, i, in)
				inner := in
				if sel.Kind == api.SelField {
					def, _ := m.types.Field(in, sel.Name)
					inner = m.ifComposite(def.Type.Name)
				} else if sel.On != "" {
					inner = m.ifComposite(sel.On)
				}
				braces(sel.Sels, inner)
			}
		}
		if d.Kind == api.DefFragment {
			braces(d.Sels, m.ifComposite(d.On))
		} else {
			braces(d.Sels, m.types.Root(d.Kind))
		}
	}
}

// eachSpread goes through all spreads, each with the number of its target, -1 if it has none.
func (m model) eachSpread(do func(sel api.Sel, def int, in string, target int)) {
	m.eachSel(func(sel api.Sel, def int, in string) {
		if sel.Kind == api.SelSpread {
			do(sel, def, in, slices.IndexFunc(m.doc.Defs, func(d api.Def) bool { return d.Kind == api.DefFragment && d.Name == sel.Name }))
		}
	})
}

// eachInline goes through all inline fragments with a type.
func (m model) eachInline(do func(sel api.Sel, in string)) {
	m.eachSel(func(sel api.Sel, def int, in string) {
		if sel.Kind == api.SelInline && sel.On != "" {
			do(sel, in)
		}
	})
}

func (m model) fragments() []api.Def {
	return slices.DeleteFunc(slices.Clone(m.doc.Defs), func(d api.Def) bool { return d.Kind != api.DefFragment })
}

func (m model) twice(out tell) {
	all := m.fragments()
	for i, one := range all {
		var places []api.Pos
		for _, other := range all {
			if one.Name == other.Name {
				places = append(places, other.Pos)
			}
		}
		isFirst := slices.IndexFunc(all, func(d api.Def) bool { return d.Name == one.Name }) == i
		if isFirst && len(places) > 1 {
			out(api.ErrFragTwice, places...)
		}
	}
}

// conditions are those of which rows ErrFragType and ErrFragKind speak.
func (m model) conditions(out tell) {
	look := func(on string, pos api.Pos) {
		if m.kind(on) == 0 {
			out(api.ErrFragType, pos)
		} else if !m.isComposite(on) {
			out(api.ErrFragKind, pos)
		}
	}
	for _, d := range m.fragments() {
		look(d.On, d.Pos)
	}
	m.eachInline(func(sel api.Sel, in string) { look(sel.On, sel.Pos) })
}

func (m model) unused(out tell) {
	for _, d := range m.fragments() {
		isUsed := false
		m.eachSpread(func(sel api.Sel, def int, in string, target int) { isUsed = isUsed || sel.Name == d.Name })
		if !isUsed {
			out(api.ErrFragUnused, d.Pos)
		}
	}
}

func (m model) none(out tell) {
	m.eachSpread(func(sel api.Sel, def int, in string, target int) {
		if target < 0 {
			out(api.ErrFragNone, sel.Pos)
		}
	})
}

// reach is of each definition those that it reaches: a step is laid onto each way again and again, till no way is new.
func (m model) reach() map[[2]int]bool {
	ways, steps := map[[2]int]bool{}, [][2]int{}
	m.eachSpread(func(sel api.Sel, def int, in string, target int) {
		if target >= 0 {
			steps = append(steps, [2]int{def, target})
			ways[[2]int{def, target}] = true
		}
	})
	for before := -1; before < len(ways); {
		before = len(ways)
		for _, step := range steps {
			for def := range m.doc.Defs {
				if ways[[2]int{step[1], def}] {
					ways[[2]int{step[0], def}] = true
				}
			}
		}
	}
	return ways
}

func (m model) rings(out tell) {
	reach := m.reach()
	m.eachSpread(func(sel api.Sel, def int, in string, target int) {
		if m.doc.Defs[def].Kind == api.DefFragment && target >= 0 && (target == def || reach[[2]int{target, def}]) {
			out(api.ErrFragRing, sel.Pos)
		}
	})
}

func (m model) never(out tell) {
	look := func(on, in string, pos api.Pos) {
		if in != "" && m.isComposite(on) && m.isApart(on, in) {
			out(api.ErrFragNever, pos)
		}
	}
	m.eachInline(func(sel api.Sel, in string) { look(sel.On, in, sel.Pos) })
	m.eachSpread(func(sel api.Sel, def int, in string, target int) {
		if target >= 0 {
			look(m.doc.Defs[target].On, in, sel.Pos)
		}
	})
}

func (m model) check() []api.Fault {
	var all []api.Fault
	for _, look := range []func(tell){m.twice, m.conditions, m.unused, m.none, m.rings, m.never} {
		look(func(kind api.Errno, places ...api.Pos) { all = append(all, api.Fault{Kind: kind, Pos: places}) })
	}
	return tree.Faults(all)
}

// hold holds Check against the model, and answers what Check answers.
func hold(t testing.TB, what string, types *typesys.Types, doc api.Document) []api.Fault {
	t.Helper()
	got := frags.Check(scope.Lay(types, doc))
	if want := (model{types, doc}).check(); told(got) != told(want) {
		t.Errorf("%s: got %q, the model %q", what, told(got), told(want))
	}
	return got
}
