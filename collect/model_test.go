package collect_test

import (
	"slices"
	"testing"

	"pergola/api"
	"pergola/coerce"
	"pergola/collect"
	"pergola/scope"
	"pergola/typesys"
)

// model is a second way: the chapter's words over the document alone, without a sheet. What is collected is first laid in one row, and brought together behind that.
type model struct {
	types *typesys.Types
	doc   api.Document
	op    int
	vars  []api.Member
	flat  []api.Sel // all selections, by their numbers
	first [][]int   // of each selection the numbers of those in its braces
	tops  [][]int   // of each definition
}

func newModel(types *typesys.Types, doc api.Document, op int, vars []api.Member) *model {
	m := &model{types: types, doc: doc, op: op, vars: vars}
	for _, def := range doc.Defs {
		m.tops = append(m.tops, m.number(def.Sels))
	}
	return m
}

// number numbers selections and all that is in their braces.
func (m *model) number(sels []api.Sel) []int {
	var own []int
	for _, sel := range sels {
		n := len(m.flat)
		own = append(own, n)
		m.flat, m.first = append(m.flat, sel), append(m.first, nil)
		m.first[n] = m.number(sel.Sels)
	}
	return own
}

// ifs are the values of a directive's if, of each that stands there; layer 22 says which.
func (m *model) ifs(sel api.Sel, directive string) []api.Value {
	var out []api.Value
	for _, dir := range sel.Dirs {
		for _, arg := range dir.Args {
			if dir.Name == directive && arg.Name == "if" {
				v, _, _ := coerce.Literal(m.types, arg.Value, api.TypeRef{Name: "Boolean"}, m.vars)
				out = append(out, v)
			}
		}
	}
	return out
}

func isYes(v api.Value) bool { return v.Kind == api.KindBool && v.Bool }

func (m *model) stays(sel api.Sel) bool {
	return !slices.ContainsFunc(m.ifs(sel, "skip"), isYes) && !slices.ContainsFunc(m.ifs(sel, "include"), func(v api.Value) bool { return !isYes(v) })
}

// applies: by the types' definitions.
func (m *model) applies(on, object string) bool {
	def, _ := m.types.Type(on)
	own, _ := m.types.Type(object)
	isNamed := func(n api.Named) bool { return n.Name == on }
	isObject := func(n api.Named) bool { return n.Name == object }
	switch def.Kind {
	case api.SysInterface:
		return slices.ContainsFunc(own.Ifaces, isNamed)
	case api.SysUnion:
		return slices.ContainsFunc(def.Members, isObject)
	}
	return on == object
}

// laid is a field at its key.
type laid struct {
	key  string
	node int
}

// lay lays fields in a row; met are the names of the fragments that were spread up to there.
func (m *model) lay(numbers []int, object string, met []string) ([]laid, []string) {
	var out, more []laid
	for _, n := range numbers {
		sel := m.flat[n]
		more = nil
		switch {
		case !m.stays(sel):
		case sel.Kind == api.SelField && sel.Alias != "":
			more = []laid{{sel.Alias, n}}
		case sel.Kind == api.SelField:
			more = []laid{{sel.Name, n}}
		case sel.Kind == api.SelInline && (sel.On == "" || m.applies(sel.On, object)):
			more, met = m.lay(m.first[n], object, met)
		case sel.Kind == api.SelSpread && !slices.Contains(met, sel.Name):
			met = append(met, sel.Name)
			i := slices.IndexFunc(m.doc.Defs, func(d api.Def) bool { return d.Kind == api.DefFragment && d.Name == sel.Name })
			if i >= 0 && m.applies(m.doc.Defs[i].On, object) {
				more, met = m.lay(m.tops[i], object, met)
			}
		}
		out = append(out, more...)
	}
	return out, met
}

func (m *model) groups(numbers []int, object string) []api.Group {
	if def, _ := m.types.Type(object); def.Kind != api.SysObject {
		return nil
	}
	row, _ := m.lay(numbers, object, nil)
	var out []api.Group
	for _, one := range row {
		if slices.ContainsFunc(out, func(g api.Group) bool { return g.Key == one.key }) {
			continue
		}
		g := api.Group{Key: one.key}
		for _, other := range row {
			if other.key == one.key {
				g.Nodes = append(g.Nodes, other.node)
			}
		}
		out = append(out, g)
	}
	return out
}

func (m *model) root() []api.Group {
	return m.groups(m.tops[m.op], m.types.Root(m.doc.Defs[m.op].Kind))
}

func (m *model) sub(object string, nodes []int) []api.Group {
	var inside []int
	for _, n := range nodes {
		if n >= 0 && n < len(m.flat) && m.flat[n].Kind == api.SelField {
			inside = append(inside, m.first[n]...)
		}
	}
	return m.groups(inside, object)
}

func (m *model) answers() answered {
	a := answered{Root: m.root()}
	sheet := scope.Lay(m.types, m.doc)
	var all []int
	for i := -1; i <= len(m.flat); i++ {
		node, ok := sheet.Node(i)
		a.Nodes, a.Has = append(a.Nodes, node), append(a.Has, ok)
		all = append(all, i)
	}
	for _, object := range names(m.types) {
		a.Subs = append(a.Subs, m.sub(object, all))
		for _, i := range all {
			a.Subs = append(a.Subs, m.sub(object, []int{i}))
		}
	}
	return a
}

// hold holds a plan against the model: all that is asked of any, and what is collected out of the groups that it answers, down to the leaves.
func hold(t testing.TB, what string, types *typesys.Types, doc api.Document, op int, vars []api.Member) (*collect.Plan, answered) {
	t.Helper()
	p, m := collect.New(types, doc, op, vars), newModel(types, doc, op, vars)
	got := answers(p, types)
	alike(t, what, got, m.answers())
	holdBelow(t, what, p, m, p.Root())
	return p, got
}

func holdBelow(t testing.TB, what string, p *collect.Plan, m *model, groups []api.Group) {
	t.Helper()
	for _, g := range groups {
		node, _ := p.Node(g.Nodes[0])
		for _, object := range m.types.Possible(node.Type.Name) {
			below := p.Sub(object, g.Nodes)
			alike(t, "Sub of "+object+" in "+what, below, m.sub(object, g.Nodes))
			holdBelow(t, what, p, m, below)
		}
	}
}
