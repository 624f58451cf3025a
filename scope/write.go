package scope

import (
	"slices"

	"pergola/api"
)

// writer lays the definitions out on a sheet, in the order of the source.
type writer struct {
	*Sheet
	catalog *catalog
	def     int   // the number of the definition that is laid out
	spread  []int // the fragments that its spreads mean
}

func (w *writer) definition(def api.Def) {
	w.spread = nil
	for i, variable := range def.Vars {
		w.variable(i, variable)
	}
	w.directives(def.Dirs, -1, definitionPlace(def.Kind))
	w.tops = append(w.tops, w.selections(def.Sels, -1, w.scopeOf(def)))
	slices.Sort(w.spread)
	w.targets = append(w.targets, slices.Compact(w.spread))
}

// scopeOf is the scope in which a definition's braces stand.
func (w *writer) scopeOf(def api.Def) string {
	if def.Kind == api.DefFragment {
		return w.catalog.composite(def.On)
	}
	return w.catalog.root(def.Kind)
}

func (w *writer) variable(i int, variable api.VarDef) {
	if variable.HasDefault {
		w.spots = append(w.spots, api.Spot{Def: w.def, Value: variable.Default, Type: variable.Type, Typed: !w.catalog.isOpen(variable.Type)})
	}
	w.directives(variable.Dirs, -2-i, "VARIABLE_DEFINITION")
}

func (w *writer) directives(dirs []api.Dir, owner int, at string) {
	for _, dir := range dirs {
		used := w.catalog.directive(dir.Name)
		w.marks = append(w.marks, api.Mark{Def: w.def, Owner: owner, Place: at, Dir: dir, Known: used.isKnown})
		w.arguments(dir.Args, used.args)
	}
}

func (w *writer) arguments(args []api.Arg, known places) {
	for _, arg := range args {
		at := known[arg.Name]
		w.spots = append(w.spots, api.Spot{Def: w.def, Value: arg.Value, Type: at.typ, Typed: at.isTyped, HasDefault: at.hasDefault})
		w.variables(arg.Value, at)
	}
}

// variables lays the uses of variables in a literal out.
func (w *writer) variables(v api.Lit, at place) {
	switch v.Kind {
	case api.LitVar:
		w.uses = append(w.uses, api.Use{Def: w.def, Name: v.Text, Pos: v.Pos, Type: at.typ, Typed: at.isTyped, HasDefault: at.hasDefault})
	case api.LitList:
		inside := at.item()
		for _, item := range v.Items {
			w.variables(item, inside)
		}
	case api.LitObject:
		inside := w.catalog.inside(at)
		for _, field := range v.Fields {
			w.variables(field.Value, inside[field.Name])
		}
	}
}

// selections lays the selections of a pair of braces out and answers their numbers.
func (w *writer) selections(sels []api.Sel, up int, parent string) []int {
	numbers := make([]int, len(sels))
	for i, sel := range sels {
		numbers[i] = w.selection(sel, up, parent)
	}
	return numbers
}

func (w *writer) selection(sel api.Sel, up int, parent string) int {
	number := len(w.nodes)
	node := api.Node{Def: w.def, Up: up, Kind: sel.Kind, Name: sel.Name, On: sel.On, Parent: parent, Args: sel.Args, Dirs: sel.Dirs, Pos: sel.Pos}
	inner := ""
	var args places
	switch sel.Kind {
	case api.SelField:
		known := w.catalog.field(parent, sel.Name)
		node.Key, node.Known, node.Type = keyOf(sel), known.isKnown, known.typ
		inner, args = known.scope, known.args
	case api.SelSpread:
		node.Known = w.meet(sel.Name)
	case api.SelInline:
		node.Known = sel.On == "" || w.catalog.isType(sel.On)
		inner = w.inlineScope(sel, parent)
	}
	w.nodes = append(w.nodes, node)
	w.arguments(sel.Args, args)
	w.directives(sel.Dirs, number, selectionPlace(sel.Kind))
	kids := w.selections(sel.Sels, number, inner)
	// Only now, for the list of nodes has grown meanwhile.
	w.nodes[number].Kids = kids
	return number
}

func (w *writer) inlineScope(sel api.Sel, parent string) string {
	if sel.On == "" {
		return parent
	}
	return w.catalog.composite(sel.On)
}

// meet notes down which fragment a spread means, if there is one.
func (w *writer) meet(name string) bool {
	target, ok := w.fragments[name]
	if ok {
		w.spread = append(w.spread, target)
	}
	return ok
}

func keyOf(field api.Sel) string {
	if field.Alias != "" {
		return field.Alias
	}
	return field.Name
}

func definitionPlace(kind api.DefKind) string {
	switch kind {
	case api.DefQuery:
		return "QUERY"
	case api.DefMutation:
		return "MUTATION"
	case api.DefSubscription:
		return "SUBSCRIPTION"
	case api.DefFragment:
		return "FRAGMENT_DEFINITION"
	}
	return ""
}

func selectionPlace(kind api.SelKind) string {
	switch kind {
	case api.SelField:
		return "FIELD"
	case api.SelSpread:
		return "FRAGMENT_SPREAD"
	case api.SelInline:
		return "INLINE_FRAGMENT"
	}
	return ""
}
