package scope_test

import (
	"slices"
	"strings"
	"testing"

	"pergola/api"
	"pergola/lits"
	"pergola/printer"
	"pergola/scope"
	"pergola/typesys"
)

// model is a second way: it keeps nothing but the types and the document. A selection is told by its trail, and all that is asked of one is found anew, from its definition on.
type model struct {
	types  *typesys.Types
	doc    api.Document
	trails []trail // of all selections; a node's number is its trail's
}

// trail is a definition's number, and the number in each pair of braces on the way to a selection.
type trail []int

func newModel(types *typesys.Types, doc api.Document) *model {
	m := &model{types: types, doc: doc}
	for i, def := range doc.Defs {
		m.trails = append(m.trails, trailsIn(trail{i}, def.Sels)...)
	}
	return m
}

func trailsIn(up trail, sels []api.Sel) []trail {
	var out []trail
	for i, sel := range sels {
		own := append(slices.Clone(up), i)
		out = append(out, own)
		out = append(out, trailsIn(own, sel.Sels)...)
	}
	return out
}

// number is a trail's number; -1 of a definition's own.
func (m *model) number(of trail) int {
	return slices.IndexFunc(m.trails, func(t trail) bool { return slices.Equal(t, of) })
}

// inside are the numbers of the selections in the braces of a trail's end.
func (m *model) inside(of trail) []int {
	var out []int
	for i, t := range m.trails {
		if len(t) == len(of)+1 && slices.Equal(t[:len(of)], of) {
			out = append(out, i)
		}
	}
	return out
}

func (m *model) sel(at trail) api.Sel {
	sels := m.doc.Defs[at[0]].Sels
	for _, i := range at[1 : len(at)-1] {
		sels = sels[i].Sels
	}
	return sels[at[len(at)-1]]
}

func (m *model) isType(name string) bool { return slices.Contains(m.types.Names(), name) }

// ifComposite is a name, if it is that of an object, interface or union type.
func (m *model) ifComposite(name string) string {
	def, _ := m.types.Type(name)
	switch def.Kind {
	case api.SysObject, api.SysInterface, api.SysUnion:
		return name
	}
	return ""
}

// scopeIn is the scope of the braces at a trail's end.
func (m *model) scopeIn(of trail) string {
	if len(of) == 1 {
		if def := m.doc.Defs[of[0]]; def.Kind != api.DefFragment {
			return m.types.Root(def.Kind)
		} else {
			return m.ifComposite(def.On)
		}
	}
	around := m.scopeIn(of[:len(of)-1])
	sel := m.sel(of)
	switch {
	case sel.Kind == api.SelField:
		def, _ := m.types.Field(around, sel.Name)
		return m.ifComposite(def.Type.Name)
	case sel.On == "":
		return around
	}
	return m.ifComposite(sel.On)
}

func (m *model) fragment(name string) (int, bool) {
	i := slices.IndexFunc(m.doc.Defs, func(d api.Def) bool { return d.Kind == api.DefFragment && d.Name == name })
	return max(i, 0), i >= 0
}

func (m *model) node(at trail) api.Node {
	sel, up := m.sel(at), at[:len(at)-1]
	n := api.Node{Def: at[0], Up: m.number(up), Kind: sel.Kind, Name: sel.Name, On: sel.On, Parent: m.scopeIn(up), Args: sel.Args, Dirs: sel.Dirs, Kids: m.inside(at), Pos: sel.Pos}
	switch sel.Kind {
	case api.SelField:
		def, ok := m.types.Field(n.Parent, sel.Name)
		n.Known, n.Type, n.Key = ok, def.Type, sel.Name
		if sel.Alias != "" {
			n.Key = sel.Alias
		}
	case api.SelSpread:
		_, n.Known = m.fragment(sel.Name)
	case api.SelInline:
		n.Known = sel.On == "" || m.isType(sel.On)
	}
	return n
}

// holder is what has directives, arguments or a default.
type holder struct {
	def, owner int
	place      string
	variable   api.VarDef // of a variable's definition
	args       []api.Arg
	inputs     []api.InputDef // what is known of the arguments
	dirs       []api.Dir
}

// holders are all of them, in the order of the document.
func (m *model) holders() []holder {
	var out []holder
	for i, def := range m.doc.Defs {
		for k, v := range def.Vars {
			out = append(out, holder{def: i, owner: -2 - k, place: "VARIABLE_DEFINITION", variable: v, dirs: v.Dirs})
		}
		out = append(out, holder{def: i, owner: -1, place: strings.Fields("- QUERY MUTATION SUBSCRIPTION FRAGMENT_DEFINITION")[def.Kind], dirs: def.Dirs})
		for number, at := range m.trails {
			if at[0] == i {
				node := m.node(at)
				known, _ := m.types.Field(node.Parent, node.Name)
				out = append(out, holder{def: i, owner: number, place: strings.Fields("- FIELD FRAGMENT_SPREAD INLINE_FRAGMENT")[node.Kind], args: node.Args, inputs: known.Args, dirs: node.Dirs})
			}
		}
	}
	return out
}

func (m *model) marks() []api.Mark {
	var out []api.Mark
	for _, h := range m.holders() {
		for _, dir := range h.dirs {
			out = append(out, api.Mark{Def: h.def, Owner: h.owner, Place: h.place, Dir: dir, Known: slices.Contains(m.types.Directives(), dir.Name)})
		}
	}
	return out
}

func (m *model) spots() []api.Spot {
	var out []api.Spot
	for _, h := range m.holders() {
		if h.variable.HasDefault {
			out = append(out, api.Spot{Def: h.def, Value: h.variable.Default, Type: h.variable.Type, Typed: m.types.Input(h.variable.Type.Name)})
		}
		out = append(out, m.argSpots(h.def, h.args, h.inputs)...)
		for _, dir := range h.dirs {
			def, _ := m.types.Directive(dir.Name)
			out = append(out, m.argSpots(h.def, dir.Args, def.Inputs)...)
		}
	}
	return out
}

func (m *model) argSpots(def int, args []api.Arg, inputs []api.InputDef) []api.Spot {
	var out []api.Spot
	for _, arg := range args {
		spot := api.Spot{Def: def, Value: arg.Value}
		if i := slices.IndexFunc(inputs, func(d api.InputDef) bool { return d.Name == arg.Name }); i >= 0 {
			spot.Type, spot.Typed, spot.HasDefault = inputs[i].Type, true, inputs[i].HasDefault
		}
		out = append(out, spot)
	}
	return out
}

// uses are found in the spots: by layer 13's Vars, and each by the way to its place.
func (m *model) uses() []api.Use {
	var out []api.Use
	for _, spot := range m.spots() {
		var places []api.Use
		typ := ""
		if spot.Typed {
			typ = printer.Type(spot.Type)
		}
		m.placesIn(spot.Value, typ, spot.HasDefault, &places)
		for i, v := range lits.Vars(spot.Value) {
			use := places[i]
			use.Def, use.Name, use.Pos = spot.Def, v.Name, v.Pos
			out = append(out, use)
		}
	}
	return out
}

// placesIn gathers the places of variables in a literal at a type as it is written, no text where there is none.
func (m *model) placesIn(v api.Lit, typ string, preset bool, out *[]api.Use) {
	item, isList := strings.CutPrefix(strings.TrimSuffix(typ, "!"), "[")
	item = strings.TrimSuffix(item, "]")
	switch {
	case v.Kind == api.LitVar:
		*out = append(*out, api.Use{Type: unwritten(typ), Typed: typ != "", HasDefault: preset})
	case v.Kind == api.LitList && isList:
		for _, part := range v.Items {
			m.placesIn(part, item, false, out)
		}
	case v.Kind == api.LitList:
		for _, part := range v.Items {
			m.placesIn(part, "", false, out)
		}
	case v.Kind == api.LitObject && isList:
		m.placesIn(v, item, false, out)
	case v.Kind == api.LitObject:
		m.placesInObject(v, item, out)
	}
}

func (m *model) placesInObject(v api.Lit, name string, out *[]api.Use) {
	def, _ := m.types.Type(name)
	for _, part := range v.Fields {
		typ, preset := "", false
		for _, input := range def.Inputs {
			if input.Name == part.Name {
				typ, preset = printer.Type(input.Type), input.HasDefault
			}
		}
		m.placesIn(part.Value, typ, preset, out)
	}
}

// unwritten is the reference of a written type.
func unwritten(typ string) api.TypeRef {
	name := strings.Trim(typ, "[]!")
	return api.TypeRef{Name: name, Wrap: strings.TrimPrefix(strings.TrimLeft(typ, "["), name)}
}

// reach asks what all reach, till nothing more comes in.
func (m *model) reach(def int) []int {
	reached := map[int]bool{}
	spreads := func(of int) {
		for _, at := range m.trails {
			if sel := m.sel(at); at[0] == of && sel.Kind == api.SelSpread {
				if target, ok := m.fragment(sel.Name); ok {
					reached[target] = true
				}
			}
		}
	}
	spreads(def)
	for before := -1; before != len(reached); {
		before = len(reached)
		for i := range m.doc.Defs {
			if reached[i] {
				spreads(i)
			}
		}
	}
	var out []int
	for i := range m.doc.Defs {
		if reached[i] {
			out = append(out, i)
		}
	}
	return out
}

func (m *model) answers() answered {
	a := answered{Document: m.doc, Uses: m.uses(), Spots: m.spots(), Marks: m.marks(), Tops: [][]int{nil}, Reach: [][]int{nil}}
	for _, at := range m.trails {
		a.Nodes = append(a.Nodes, m.node(at))
	}
	a.Single = slices.Concat([]api.Node{{}}, a.Nodes, []api.Node{{}})
	for i := range m.doc.Defs {
		a.Tops = append(a.Tops, m.inside(trail{i}))
		a.Reach = append(a.Reach, m.reach(i))
	}
	a.Tops, a.Reach = append(a.Tops, nil), append(a.Reach, nil)
	for _, name := range append(names(a), "", "nope", "A", "F0") {
		number, ok := m.fragment(name)
		a.Fragments = append(a.Fragments, found{number, ok})
	}
	return a
}

// hold holds the sheet of a document against the model.
func hold(t *testing.T, what string, types *typesys.Types, doc api.Document) answered {
	t.Helper()
	got, want := answers(scope.Lay(types, doc)), newModel(types, doc).answers()
	alike(t, "Document of "+what, got.Document, want.Document)
	alike(t, "Nodes of "+what, got.Nodes, want.Nodes)
	alike(t, "Node of "+what, got.Single, want.Single)
	alike(t, "Tops of "+what, got.Tops, want.Tops)
	alike(t, "Uses of "+what, got.Uses, want.Uses)
	alike(t, "Spots of "+what, got.Spots, want.Spots)
	alike(t, "Marks of "+what, got.Marks, want.Marks)
	alike(t, "Fragment of "+what, got.Fragments, want.Fragments)
	alike(t, "Reach of "+what, got.Reach, want.Reach)
	return got
}
