package vars_test

import (
	"slices"
	"testing"

	"pergola/api"
	"pergola/scope"
	"pergola/tree"
	"pergola/typesys"
	"pergola/vars"
)

// model is a second way: it has no sheet, goes through the document for each row of the chapter's table anew, and holds each operation against each use.
type model struct {
	types *typesys.Types
	doc   api.Document
}

// tell takes a fault.
type tell func(kind api.Errno, places ...api.Pos)

// place is where a literal stands; the zero one has no type.
type place struct {
	typ        api.TypeRef
	isTyped    bool
	hasDefault bool
}

func (m model) kind(name string) api.SysKind {
	def, _ := m.types.Type(name)
	return def.Kind
}

func (m model) ifComposite(name string) string {
	switch m.kind(name) {
	case api.SysObject, api.SysInterface, api.SysUnion:
		return name
	}
	return ""
}

func (m model) isOpen(r api.TypeRef) bool {
	kind := m.kind(r.Name)
	return kind != api.SysScalar && kind != api.SysEnum && kind != api.SysInput
}

// eachUse goes through all uses of variables, each with the number of its definition.
func (m model) eachUse(do func(v api.Lit, def int, at place)) {
	for i, d := range m.doc.Defs {
		take := func(v api.Lit, at place) { do(v, i, at) }
		for _, v := range d.Vars {
			m.inDirs(v.Dirs, take)
		}
		m.inDirs(d.Dirs, take)
		if d.Kind == api.DefFragment {
			m.inSels(d.Sels, m.ifComposite(d.On), take)
		} else {
			m.inSels(d.Sels, m.types.Root(d.Kind), take)
		}
	}
}

func (m model) inSels(sels []api.Sel, in string, take func(api.Lit, place)) {
	for _, sel := range sels {
		inner := in
		if sel.Kind == api.SelField {
			def, _ := m.types.Field(in, sel.Name)
			m.inArgs(sel.Args, def.Args, take)
			inner = m.ifComposite(def.Type.Name)
		} else if sel.On != "" {
			inner = m.ifComposite(sel.On)
		}
		m.inDirs(sel.Dirs, take)
		m.inSels(sel.Sels, inner, take)
	}
}

func (m model) inDirs(dirs []api.Dir, take func(api.Lit, place)) {
	for _, dir := range dirs {
		def, _ := m.types.Directive(dir.Name)
		m.inArgs(dir.Args, def.Inputs, take)
	}
}

func (m model) inArgs(args []api.Arg, defs []api.InputDef, take func(api.Lit, place)) {
	for _, arg := range args {
		m.inLit(arg.Value, placeIn(defs, arg.Name), take)
	}
}

func placeIn(defs []api.InputDef, name string) place {
	for _, def := range defs {
		if def.Name == name {
			return place{def.Type, true, def.HasDefault}
		}
	}
	return place{}
}

func (m model) inLit(v api.Lit, at place, take func(api.Lit, place)) {
	item, isList := typesys.Item(at.typ)
	switch {
	case v.Kind == api.LitVar:
		take(v, at)
	case v.Kind == api.LitList:
		for _, part := range v.Items {
			m.inLit(part, place{typ: item, isTyped: isList}, take)
		}
	case v.Kind == api.LitObject && isList:
		m.inLit(v, place{typ: item, isTyped: true}, take)
	case v.Kind == api.LitObject:
		def, _ := m.types.Type(at.typ.Name)
		for _, part := range v.Fields {
			m.inLit(part.Value, placeIn(def.Inputs, part.Name), take)
		}
	}
}

// reach is of each definition those that it reaches: a step is laid onto each way again and again, till no way is new.
func (m model) reach() map[[2]int]bool {
	ways, steps := map[[2]int]bool{}, [][2]int{}
	var walk func(sels []api.Sel, def int)
	walk = func(sels []api.Sel, def int) {
		for _, sel := range sels {
			target := slices.IndexFunc(m.doc.Defs, func(d api.Def) bool { return d.Kind == api.DefFragment && d.Name == sel.Name })
			if sel.Kind == api.SelSpread && target >= 0 {
				steps = append(steps, [2]int{def, target})
				ways[[2]int{def, target}] = true
			}
			walk(sel.Sels, def)
		}
	}
	for i, d := range m.doc.Defs {
		walk(d.Sels, i)
	}
	for before := -1; before < len(ways); {
		before = len(ways)
		for _, step := range steps {
			for def := range m.doc.Defs {
				if ways[[2]int{step[1], def}] {
					ways[[2]int{step[0], def}] = true
				}
			}
		}
	}
	return ways
}

// eachOwn goes through the operations, each with each of its uses.
func (m model) eachOwn(do func(op api.Def, v api.Lit, at place)) {
	ways := m.reach()
	for i, op := range m.doc.Defs {
		if op.Kind != api.DefFragment {
			m.eachUse(func(v api.Lit, def int, at place) {
				if def == i || ways[[2]int{i, def}] {
					do(op, v, at)
				}
			})
		}
	}
}

// eachVar goes through the operations' variables.
func (m model) eachVar(do func(op api.Def, number int, v api.VarDef)) {
	for _, op := range m.doc.Defs {
		if op.Kind != api.DefFragment {
			for i, v := range op.Vars {
				do(op, i, v)
			}
		}
	}
}

// variable is the one of an operation that has a name.
func variable(op api.Def, name string) (api.VarDef, bool) {
	for _, v := range op.Vars {
		if v.Name == name {
			return v, true
		}
	}
	return api.VarDef{}, false
}

func (m model) twice(out tell) {
	m.eachVar(func(op api.Def, number int, v api.VarDef) {
		var places []api.Pos
		for i, other := range op.Vars {
			if other.Name == v.Name {
				places = append(places, other.Pos)
				if i < number { // it was told with the first
					return
				}
			}
		}
		if len(places) > 1 {
			out(api.ErrVarTwice, places...)
		}
	})
}

func (m model) open(out tell) {
	m.eachVar(func(op api.Def, number int, v api.VarDef) {
		if m.isOpen(v.Type) {
			out(api.ErrVarType, v.Pos)
		}
	})
}

func (m model) undefined(out tell) {
	m.eachOwn(func(op api.Def, v api.Lit, at place) {
		if _, ok := variable(op, v.Text); !ok {
			out(api.ErrVarNone, v.Pos, op.Pos)
		}
	})
}

func (m model) unused(out tell) {
	used := map[[2]any]bool{}
	m.eachOwn(func(op api.Def, v api.Lit, at place) { used[[2]any{op.Pos, v.Text}] = true })
	m.eachVar(func(op api.Def, number int, v api.VarDef) {
		if !used[[2]any{op.Pos, v.Name}] {
			out(api.ErrVarUnused, v.Pos)
		}
	})
}

func (m model) misplaced(out tell) {
	m.eachOwn(func(op api.Def, v api.Lit, at place) {
		def, ok := variable(op, v.Text)
		hasDefault := def.HasDefault && def.Default.Kind != api.LitNull
		if ok && at.isTyped && !m.isOpen(def.Type) && !permits(def.Type, hasDefault, at.typ, at.hasDefault) {
			out(api.ErrVarPlace, def.Pos, v.Pos)
		}
	})
}

// ahead is what is ahead of a reference's last mark, and that mark; no text, if there is none.
func ahead(r api.TypeRef) (api.TypeRef, string) {
	last := len(r.Wrap) - 1
	if last < 0 {
		return r, ""
	}
	return api.TypeRef{Name: r.Name, Wrap: r.Wrap[:last]}, r.Wrap[last:]
}

// areAgreed is the chapter's 'Two references agree', word for word.
func areAgreed(has, want api.TypeRef) bool {
	hasRest, hasMark := ahead(has)
	wantRest, wantMark := ahead(want)
	switch {
	case wantMark == "!":
		return hasMark == "!" && areAgreed(hasRest, wantRest)
	case hasMark == "!":
		return areAgreed(hasRest, want)
	case wantMark == "]":
		return hasMark == "]" && areAgreed(hasRest, wantRest)
	case wantMark == "":
		return hasMark == "" && has.Name == want.Name
	}
	return false
}

// permits is P20.2, word for word.
func permits(has api.TypeRef, hasDefault bool, want api.TypeRef, wantDefault bool) bool {
	_, hasMark := ahead(has)
	wantRest, wantMark := ahead(want)
	if wantMark == "!" && hasMark != "!" {
		if !hasDefault && !wantDefault {
			return false
		}
		return areAgreed(has, wantRest)
	}
	return areAgreed(has, want)
}

// answers are a row's faults for each of ruleCalls.
func (m model) answers() [][]api.Fault {
	var all [][]api.Fault
	for _, look := range []func(tell){m.twice, m.open, m.undefined, m.unused, m.misplaced} {
		var faults []api.Fault
		look(func(kind api.Errno, places ...api.Pos) {
			faults = append(faults, api.Fault{Kind: kind, Pos: places})
		})
		all = append(all, tree.Faults(faults))
	}
	return all
}

// hold holds all calls against the model, and answers what Check answers.
func hold(t testing.TB, what string, types *typesys.Types, doc api.Document) []api.Fault {
	t.Helper()
	s := scope.Lay(types, doc)
	want := model{types, doc}.answers()
	for i, r := range ruleCalls() {
		if got := r.call(s); told(got) != told(want[i]) {
			t.Errorf("%s of %s: got %q, the model %q", r.name, what, told(got), told(want[i]))
		}
	}
	got := vars.Check(s)
	if want := slices.Concat(want...); told(got) != told(want) {
		t.Errorf("Check of %s: got %q, the model %q", what, told(got), told(want))
	}
	return got
}
