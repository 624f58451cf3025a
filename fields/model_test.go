package fields_test

import (
	"slices"
	"strings"
	"testing"

	"pergola/api"
	"pergola/lits"
	"pergola/scope"
	"pergola/tree"
	"pergola/typesys"
)

// model is a second way: it has no sheet, but goes through the document itself, for each row of the chapter's table anew, and holds each thing against each.
type model struct {
	types *typesys.Types
	doc   api.Document
}

// tell takes a fault.
type tell func(kind api.Errno, places ...api.Pos)

func (m model) operations() []api.Def {
	return slices.DeleteFunc(slices.Clone(m.doc.Defs), func(d api.Def) bool { return d.Kind == api.DefFragment })
}

func (m model) fragment(name string) (api.Def, bool) {
	for _, d := range m.doc.Defs {
		if d.Kind == api.DefFragment && d.Name == name {
			return d, true
		}
	}
	return api.Def{}, false
}

// topFields are the fields at the top of selections; met are the fragments that have been gone into.
func (m model) topFields(sels []api.Sel, met map[string]bool) []api.Sel {
	var out []api.Sel
	for _, sel := range sels {
		switch sel.Kind {
		case api.SelField:
			out = append(out, sel)
		case api.SelInline:
			out = append(out, m.topFields(sel.Sels, met)...)
		case api.SelSpread:
			if d, ok := m.fragment(sel.Name); ok && !met[sel.Name] {
				met[sel.Name] = true
				out = append(out, m.topFields(d.Sels, met)...)
			}
		}
	}
	return out
}

func responseKey(sel api.Sel) string {
	if sel.Alias == "" {
		return sel.Name
	}
	return sel.Alias
}

func (m model) isSingle(op api.Def) bool {
	keys := map[string]bool{}
	for _, f := range m.topFields(op.Sels, map[string]bool{}) {
		if strings.HasPrefix(f.Name, "__") {
			return false
		}
		keys[responseKey(f)] = true
	}
	return len(keys) == 1
}

// same tells all things that have one key, if there are several; the first of them tells.
func same[T any](things []T, alike func(a, b T) bool, place func(T) api.Pos, out func(places []api.Pos)) {
	for i, one := range things {
		var places []api.Pos
		isFirst := true
		for k, other := range things {
			if alike(one, other) {
				places = append(places, place(other))
				isFirst = isFirst && k >= i
			}
		}
		if isFirst && len(places) > 1 {
			out(places)
		}
	}
}

func (m model) operationRows(out tell) {
	ops := m.operations()
	same(ops, func(a, b api.Def) bool { return a.Name == b.Name && a.Name != "" }, func(d api.Def) api.Pos { return d.Pos }, func(places []api.Pos) { out(api.ErrOpTwice, places...) })
	for _, op := range ops {
		if op.Name == "" && len(ops) >= 2 {
			out(api.ErrOpAlone, op.Pos)
		}
		if op.Kind == api.DefSubscription && !m.isSingle(op) {
			out(api.ErrOpSingle, op.Pos)
		}
		if m.types.Root(op.Kind) == "" {
			out(api.ErrOpRoot, op.Pos)
		}
	}
}

func (m model) kind(name string) api.SysKind {
	def, _ := m.types.Type(name)
	return def.Kind
}

func (m model) isComposite(name string) bool {
	kind := m.kind(name)
	return kind == api.SysObject || kind == api.SysInterface || kind == api.SysUnion
}

// ifComposite is a name, if it is that of a composite type.
func (m model) ifComposite(name string) string {
	if m.isComposite(name) {
		return name
	}
	return ""
}

// eachSel goes through all selections, each with the type in whose scope it stands.
func (m model) eachSel(do func(sel api.Sel, in string)) {
	var braces func(sels []api.Sel, in string)
	braces = func(sels []api.Sel, in string) {
		for _, sel := range sels {
			do(sel, in)
			inner := in
			if sel.Kind == api.SelField {
				def, _ := m.types.Field(in, sel.Name)
				inner = m.ifComposite(def.Type.Name)
			} else if sel.On != "" {
				inner = m.ifComposite(sel.On)
			}
			braces(sel.Sels, inner)
		}
	}
	for _, d := range m.doc.Defs {
		if d.Kind == api.DefFragment {
			braces(d.Sels, m.ifComposite(d.On))
		} else {
			braces(d.Sels, m.types.Root(d.Kind))
		}
	}
}

func (m model) selectionRows(out tell) {
	m.eachSel(func(sel api.Sel, in string) {
		if sel.Kind != api.SelField {
			return
		}
		def, ok := m.types.Field(in, sel.Name)
		kind := m.kind(def.Type.Name)
		switch {
		case !ok && in != "":
			out(api.ErrFieldNone, sel.Pos)
		case ok && (kind == api.SysScalar || kind == api.SysEnum) && len(sel.Sels) > 0:
			out(api.ErrLeafSels, sel.Pos)
		case ok && m.isComposite(def.Type.Name) && len(sel.Sels) == 0:
			out(api.ErrNoSels, sel.Pos)
		}
	})
}

// eachDirs goes through all lists of directives, each with the name of its place.
func (m model) eachDirs(do func(dirs []api.Dir, place string)) {
	for _, d := range m.doc.Defs {
		for _, v := range d.Vars {
			do(v.Dirs, "VARIABLE_DEFINITION")
		}
		do(d.Dirs, map[api.DefKind]string{api.DefQuery: "QUERY", api.DefMutation: "MUTATION", api.DefSubscription: "SUBSCRIPTION", api.DefFragment: "FRAGMENT_DEFINITION"}[d.Kind])
	}
	m.eachSel(func(sel api.Sel, in string) {
		do(sel.Dirs, map[api.SelKind]string{api.SelField: "FIELD", api.SelSpread: "FRAGMENT_SPREAD", api.SelInline: "INLINE_FRAGMENT"}[sel.Kind])
	})
}

// eachCall goes through all that may have arguments, with what its definition says of them, if there is one.
func (m model) eachCall(do func(args []api.Arg, at api.Pos, defs []api.InputDef, known bool)) {
	m.eachSel(func(sel api.Sel, in string) {
		if sel.Kind == api.SelField {
			def, ok := m.types.Field(in, sel.Name)
			do(sel.Args, sel.Pos, def.Args, ok)
		}
	})
	m.eachDirs(func(dirs []api.Dir, place string) {
		for _, dir := range dirs {
			def, ok := m.types.Directive(dir.Name)
			do(dir.Args, dir.Pos, def.Inputs, ok)
		}
	})
}

func (m model) argumentRows(out tell) {
	m.eachCall(func(args []api.Arg, at api.Pos, defs []api.InputDef, known bool) {
		same(args, func(a, b api.Arg) bool { return a.Name == b.Name }, func(a api.Arg) api.Pos { return a.Pos }, func(places []api.Pos) { out(api.ErrArgSame, places...) })
		for _, arg := range args {
			if known && !slices.ContainsFunc(defs, func(d api.InputDef) bool { return d.Name == arg.Name }) {
				out(api.ErrArgNone, arg.Pos)
			}
		}
		for _, def := range defs {
			isGiven := slices.ContainsFunc(args, func(a api.Arg) bool { return a.Name == def.Name })
			if strings.HasSuffix(def.Type.Wrap, "!") && !def.HasDefault && !isGiven {
				out(api.ErrArgMissing, at)
			}
		}
	})
}

func (m model) valueRows(out tell) {
	hold := func(v api.Lit, want api.TypeRef) {
		for _, f := range lits.Check(m.types, v, want) {
			out(f.Kind, f.Pos...)
		}
	}
	for _, d := range m.doc.Defs {
		for _, v := range d.Vars {
			switch {
			case v.HasDefault && m.types.Input(v.Type.Name):
				hold(v.Default, v.Type)
			case v.HasDefault:
				hold(v.Default, api.TypeRef{})
			}
		}
	}
	m.eachCall(func(args []api.Arg, at api.Pos, defs []api.InputDef, known bool) {
		for _, arg := range args {
			want := api.TypeRef{}
			for _, def := range defs {
				if def.Name == arg.Name {
					want = def.Type
				}
			}
			hold(arg.Value, want)
		}
	})
}

func (m model) directiveRows(out tell) {
	m.eachDirs(func(dirs []api.Dir, place string) {
		for _, dir := range dirs {
			def, ok := m.types.Directive(dir.Name)
			if !ok {
				out(api.ErrDirNone, dir.Pos)
			} else if !slices.ContainsFunc(def.Places, func(n api.Named) bool { return n.Name == place }) {
				out(api.ErrDirPlace, dir.Pos)
			}
		}
		single := func(dir api.Dir) bool {
			def, ok := m.types.Directive(dir.Name)
			return ok && !def.Repeatable
		}
		same(dirs, func(a, b api.Dir) bool { return a.Name == b.Name && single(a) }, func(d api.Dir) api.Pos { return d.Pos }, func(places []api.Pos) { out(api.ErrDirSame, places...) })
	})
}

// of are the faults that a call answers.
func (m model) of(c call) []api.Fault {
	rows := []func(tell){m.operationRows, m.selectionRows, m.argumentRows, m.valueRows, m.directiveRows}
	if c != check {
		rows = rows[c : c+1]
	}
	var all []api.Fault
	for _, look := range rows {
		look(func(kind api.Errno, places ...api.Pos) { all = append(all, api.Fault{Kind: kind, Pos: places}) })
	}
	return tree.Faults(all)
}

// hold holds all calls over a document's sheet against the model, and answers what Check answers.
func hold(t testing.TB, what string, types *typesys.Types, doc api.Document) []api.Fault {
	t.Helper()
	s := scope.Lay(types, doc)
	m := model{types, doc}
	for _, c := range allCalls() {
		if got, want := told(c.of(s)), told(m.of(c)); got != want {
			t.Errorf("%v of %s: got %q, the model %q", c, what, got, want)
		}
	}
	return check.of(s)
}
