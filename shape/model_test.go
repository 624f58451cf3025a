package shape_test

import (
	"cmp"
	"slices"
	"strings"

	"pergola/api"
	"pergola/lits"
	"pergola/typesys"
)

// model says the chapter a second time, row by row, in the plainest way: each row goes through all that it might speak of, and holds each against each.
type model struct {
	defs       []api.SysDef
	types      *typesys.Types
	own        []api.SysDef // own types
	directives []api.SysDef // own directives
	told       [][]api.Fault
}

const (
	builtInTypes      = "Int Float String Boolean ID __Schema __Type __TypeKind __Field __InputValue __EnumValue __Directive __DirectiveLocation"
	builtInDirectives = "skip include deprecated specifiedBy"
)

func isOneOf(name, names string) bool { return slices.Contains(strings.Fields(names), name) }

// modelFaults is the set of faults of lists, in the document's order.
func modelFaults(lists [][]api.Fault) []api.Fault {
	var out []api.Fault
	for _, f := range slices.Concat(lists...) {
		if !slices.ContainsFunc(out, func(o api.Fault) bool { return o.Kind == f.Kind && slices.Equal(o.Pos, f.Pos) }) {
			out = append(out, f)
		}
	}
	slices.SortFunc(out, func(a, b api.Fault) int {
		return cmp.Or(cmp.Compare(a.Kind, b.Kind), slices.CompareFunc(a.Pos, b.Pos, comparePlaces))
	})
	return out
}

func comparePlaces(a, b api.Pos) int {
	return cmp.Or(cmp.Compare(a.Line, b.Line), cmp.Compare(a.Col, b.Col))
}

// modelAnswers is what all calls should answer, in the order of answers.
func modelAnswers(defs []api.SysDef) [][]api.Fault {
	m := &model{defs: defs, types: typesys.Build(defs)}
	for _, d := range defs {
		if m.isTypeDef(d) && !isOneOf(d.Name, builtInTypes) && !m.has(m.own, d.Name) {
			def, _ := m.types.Type(d.Name)
			m.own = append(m.own, def)
		}
		if d.Kind == api.SysDirective && !isOneOf(d.Name, builtInDirectives) && !m.has(m.directives, d.Name) {
			def, _ := m.types.Directive(d.Name)
			m.directives = append(m.directives, def)
		}
	}
	var all [][]api.Fault
	for _, rules := range []func(){m.assembly, m.roots, m.names, m.parts, m.refs, m.ifaces, m.members, m.rings, m.uses} {
		m.told = nil
		rules()
		all = append(all, modelFaults(m.told))
	}
	return append(all, modelFaults(all))
}

func (m *model) tell(kind api.Errno, places ...api.Pos) {
	m.told = append(m.told, []api.Fault{{Kind: kind, Pos: places}})
}

func (m *model) has(defs []api.SysDef, name string) bool {
	return slices.ContainsFunc(defs, func(d api.SysDef) bool { return d.Name == name })
}

func (m *model) isTypeDef(d api.SysDef) bool {
	return d.Kind != api.SysSchema && d.Kind != api.SysDirective && !d.Extend
}

func (m *model) isTypeExtension(d api.SysDef) bool { return d.Kind != api.SysSchema && d.Extend }

// thing is something with a name at a place.
type thing = api.Named

// several tells for each name that two or more bear all their places.
func (m *model) several(kind api.Errno, things []thing) {
	for _, one := range things {
		var places []api.Pos
		for _, other := range things {
			if other.Name == one.Name {
				places = append(places, other.Pos)
			}
		}
		slices.SortFunc(places, comparePlaces)
		if len(places) >= 2 {
			m.tell(kind, places...)
		}
	}
}

func (m *model) assembly() {
	var types, directives, schemas []thing
	for _, d := range m.defs {
		switch {
		case d.Kind == api.SysSchema && !d.Extend:
			schemas = append(schemas, thing{Name: "schema", Pos: d.Pos})
		case d.Kind == api.SysDirective && isOneOf(d.Name, builtInDirectives), m.isTypeDef(d) && isOneOf(d.Name, builtInTypes), m.isTypeExtension(d) && isOneOf(d.Name, builtInTypes):
			m.tell(api.ErrBuiltIn, d.Pos)
		case d.Kind == api.SysDirective:
			directives = append(directives, thing{Name: d.Name, Pos: d.Pos})
		case m.isTypeDef(d):
			types = append(types, thing{Name: d.Name, Pos: d.Pos})
		}
	}
	m.several(api.ErrTypeTwice, types)
	m.several(api.ErrDirTwice, directives)
	m.several(api.ErrSchemaTwice, schemas)
	for _, op := range []api.DefKind{api.DefQuery, api.DefMutation, api.DefSubscription} {
		var of []thing
		for _, r := range m.types.Schema().Roots {
			if r.Op == op {
				of = append(of, thing{Pos: r.Pos})
			}
		}
		m.several(api.ErrRootTwice, of)
	}
	for _, d := range m.defs {
		switch {
		case d.Kind == api.SysSchema && d.Extend && len(schemas) == 0:
			m.tell(api.ErrExtendNone, d.Pos)
		case m.isTypeExtension(d) && !isOneOf(d.Name, builtInTypes):
			first := slices.IndexFunc(m.defs, func(o api.SysDef) bool { return m.isTypeDef(o) && o.Name == d.Name })
			if first < 0 {
				m.tell(api.ErrExtendNone, d.Pos)
			} else if m.defs[first].Kind != d.Kind {
				m.tell(api.ErrExtendKind, d.Pos)
			}
		}
	}
}

// isOwn: is there an own type of that name and kind?
func (m *model) isOwn(name string, kind api.SysKind) bool {
	return slices.ContainsFunc(m.own, func(d api.SysDef) bool { return d.Name == name && d.Kind == kind })
}

func (m *model) roots() {
	roots := m.types.Schema().Roots
	queries := 0
	for _, r := range roots {
		if r.Op == api.DefQuery {
			queries++
		}
		if !m.isOwn(r.Type, api.SysObject) {
			m.tell(api.ErrRootKind, r.Pos)
		}
		var places []api.Pos
		unlike := false
		for _, o := range roots {
			if o.Type == r.Type {
				places = append(places, o.Pos)
				unlike = unlike || o.Op != r.Op
			}
		}
		slices.SortFunc(places, comparePlaces)
		if unlike {
			m.tell(api.ErrRootSame, places...)
		}
	}
	if queries == 0 {
		m.tell(api.ErrNoQuery)
	}
}

// inputs are all inputs of the chapter; args says whether those that are arguments, or the input fields.
func (m *model) inputs(args bool) []api.InputDef {
	var out []api.InputDef
	for _, d := range m.own {
		if !args {
			out = append(out, d.Inputs...)
			continue
		}
		for _, f := range d.Fields {
			out = append(out, f.Args...)
		}
	}
	for _, d := range m.directives {
		if args {
			out = append(out, d.Inputs...)
		}
	}
	return out
}

func (m *model) allInputs() []api.InputDef { return slices.Concat(m.inputs(true), m.inputs(false)) }

func inputThings(inputs []api.InputDef) []thing {
	var out []thing
	for _, d := range inputs {
		out = append(out, thing{Name: d.Name, Pos: d.Pos})
	}
	return out
}

// partThings are a type's fields, values, input fields.
func partThings(d api.SysDef) []thing {
	out := inputThings(d.Inputs)
	for _, f := range d.Fields {
		out = append(out, thing{Name: f.Name, Pos: f.Pos})
	}
	for _, v := range d.Values {
		out = append(out, thing{Name: v.Name, Pos: v.Pos})
	}
	return out
}

func (m *model) names() {
	all := inputThings(m.allInputs())
	for _, d := range slices.Concat(m.own, m.directives) {
		all = append(all, thing{Name: d.Name, Pos: d.Pos})
		all = append(all, partThings(d)...)
	}
	for _, n := range all {
		if len(n.Name) >= 2 && n.Name[0] == '_' && n.Name[1] == '_' {
			m.tell(api.ErrName, n.Pos)
		}
	}
}

func (m *model) parts() {
	for _, d := range m.own {
		empty := map[api.SysKind]bool{
			api.SysObject: len(d.Fields) == 0, api.SysInterface: len(d.Fields) == 0, api.SysUnion: len(d.Members) == 0, api.SysEnum: len(d.Values) == 0, api.SysInput: len(d.Inputs) == 0,
		}
		if empty[d.Kind] {
			m.tell(api.ErrEmpty, d.Pos)
		}
		m.several(api.ErrPartTwice, partThings(d))
		for _, f := range d.Fields {
			m.several(api.ErrInputTwice, inputThings(f.Args))
		}
	}
	for _, d := range m.directives {
		m.several(api.ErrInputTwice, inputThings(d.Inputs))
	}
}

func (m *model) refs() {
	names := m.types.Names()
	for _, d := range m.own {
		for _, f := range d.Fields {
			if !slices.Contains(names, f.Type.Name) {
				m.tell(api.ErrTypeNone, f.Pos)
			} else if !m.types.Output(f.Type.Name) {
				m.tell(api.ErrOutput, f.Pos)
			}
		}
	}
	for _, d := range m.allInputs() {
		if !slices.Contains(names, d.Type.Name) {
			m.tell(api.ErrTypeNone, d.Pos)
		} else if !m.types.Input(d.Type.Name) {
			m.tell(api.ErrInput, d.Pos)
		}
	}
}

func modelRequired(d api.InputDef) bool { return strings.HasSuffix(d.Type.Wrap, "!") && !d.HasDefault }

func findField(d api.SysDef, name string) (api.FieldDef, bool) {
	i := slices.IndexFunc(d.Fields, func(f api.FieldDef) bool { return f.Name == name })
	if i < 0 {
		return api.FieldDef{}, false
	}
	return d.Fields[i], true
}

func findInput(inputs []api.InputDef, name string) (api.InputDef, bool) {
	i := slices.IndexFunc(inputs, func(d api.InputDef) bool { return d.Name == name })
	if i < 0 {
		return api.InputDef{}, false
	}
	return inputs[i], true
}

func hasNamed(list []api.Named, name string) bool {
	return slices.ContainsFunc(list, func(n api.Named) bool { return n.Name == name })
}

func (m *model) ifaces() {
	for _, d := range m.own {
		m.several(api.ErrIfaceTwice, d.Ifaces)
		for _, n := range d.Ifaces {
			if !m.isOwn(n.Name, api.SysInterface) {
				m.tell(api.ErrIface, n.Pos)
			}
			if n.Name == d.Name {
				m.tell(api.ErrIfaceSelf, n.Pos)
			} else if m.isOwn(n.Name, api.SysInterface) {
				m.implements(d, n)
			}
		}
	}
}

func (m *model) implements(d api.SysDef, n api.Named) {
	iface, _ := m.types.Type(n.Name)
	for _, more := range iface.Ifaces {
		if !hasNamed(d.Ifaces, more.Name) {
			m.tell(api.ErrIfaceMore, n.Pos)
		}
	}
	for _, field := range iface.Fields {
		f, _ := findField(iface, field.Name)
		g, ok := findField(d, field.Name)
		if !ok {
			m.tell(api.ErrImplField, n.Pos, f.Pos)
			continue
		}
		if !m.types.Fits(g.Type, f.Type) {
			m.tell(api.ErrImplType, g.Pos, f.Pos)
		}
		for _, arg := range f.Args {
			of, _ := findInput(f.Args, arg.Name)
			if has, ok := findInput(g.Args, arg.Name); !ok {
				m.tell(api.ErrImplArg, g.Pos, arg.Pos)
			} else if has.Type.Name != of.Type.Name || has.Type.Wrap != of.Type.Wrap {
				m.tell(api.ErrImplArgType, has.Pos, of.Pos)
			}
		}
		for _, arg := range g.Args {
			if _, ok := findInput(f.Args, arg.Name); !ok && modelRequired(arg) {
				m.tell(api.ErrImplExtra, arg.Pos, f.Pos)
			}
		}
	}
}

func (m *model) members() {
	for _, d := range m.own {
		m.several(api.ErrMemberTwice, d.Members)
		for _, n := range d.Members {
			if !m.isOwn(n.Name, api.SysObject) {
				m.tell(api.ErrMember, n.Pos)
			}
		}
	}
}

// step is a pair of a relation among things; directives' names bear an @.
type step struct{ from, to string }

// closed is a relation with all ways of several steps.
func closed(steps []step) map[step]bool {
	all := map[step]bool{}
	for _, s := range steps {
		all[s] = true
	}
	for grown := true; grown; {
		grown = false
		var more []step
		for a := range all {
			for _, b := range steps {
				if a.to == b.from && !all[step{a.from, b.to}] {
					more = append(more, step{a.from, b.to})
				}
			}
		}
		for _, s := range more {
			all[s], grown = true, true
		}
	}
	return all
}

func (m *model) rings() {
	var needs, uses []step
	lay := func(from string, dirs []api.Dir) {
		for _, dir := range dirs {
			uses = append(uses, step{from, "@" + dir.Name})
		}
	}
	layInputs := func(from string, inputs []api.InputDef) {
		for _, d := range inputs {
			lay(from, d.Dirs)
			uses = append(uses, step{from, d.Type.Name})
		}
	}
	for _, d := range m.own {
		for _, input := range d.Inputs {
			if d.Kind == api.SysInput && m.isOwn(input.Type.Name, api.SysInput) && input.Type.Wrap == "!" {
				needs = append(needs, step{d.Name, input.Type.Name})
			}
		}
		lay(d.Name, d.Dirs)
		layInputs(d.Name, d.Inputs)
		for _, v := range d.Values {
			lay(d.Name, v.Dirs)
		}
	}
	for _, d := range m.directives {
		layInputs("@"+d.Name, d.Inputs)
	}
	needing, using := closed(needs), closed(uses)
	for _, d := range m.own {
		if needing[step{d.Name, d.Name}] {
			m.tell(api.ErrInputRing, d.Pos)
		}
	}
	for _, d := range m.directives {
		if using[step{"@" + d.Name, "@" + d.Name}] {
			m.tell(api.ErrDirRing, d.Pos)
		}
	}
}

func (m *model) uses() {
	m.spot("SCHEMA", m.types.Schema().Dirs)
	places := map[api.SysKind]string{api.SysScalar: "SCALAR", api.SysObject: "OBJECT", api.SysInterface: "INTERFACE", api.SysUnion: "UNION", api.SysEnum: "ENUM", api.SysInput: "INPUT_OBJECT"}
	for _, d := range m.own {
		m.spot(places[d.Kind], d.Dirs)
		for _, f := range d.Fields {
			m.spot("FIELD_DEFINITION", f.Dirs)
		}
		for _, v := range d.Values {
			m.spot("ENUM_VALUE", v.Dirs)
		}
	}
	for _, d := range m.inputs(true) {
		m.spot("ARGUMENT_DEFINITION", d.Dirs)
	}
	for _, d := range m.inputs(false) {
		m.spot("INPUT_FIELD_DEFINITION", d.Dirs)
	}
	for _, d := range m.allInputs() {
		if d.HasDefault {
			m.told = append(m.told, lits.Check(m.types, d.Default, d.Type))
		}
	}
}

func (m *model) spot(place string, dirs []api.Dir) {
	var single []thing
	for _, dir := range dirs {
		var args []thing
		for _, arg := range dir.Args {
			args = append(args, thing{Name: arg.Name, Pos: arg.Pos})
		}
		m.several(api.ErrArgSame, args)
		def, ok := m.types.Directive(dir.Name)
		for _, arg := range dir.Args {
			of, has := findInput(def.Inputs, arg.Name)
			m.told = append(m.told, lits.Check(m.types, arg.Value, of.Type))
			if ok && !has {
				m.tell(api.ErrArgNone, arg.Pos)
			}
		}
		if !ok {
			m.tell(api.ErrDirNone, dir.Pos)
			continue
		}
		if !hasNamed(def.Places, place) {
			m.tell(api.ErrDirPlace, dir.Pos)
		}
		if !def.Repeatable {
			single = append(single, thing{Name: dir.Name, Pos: dir.Pos})
		}
		for _, d := range def.Inputs {
			if modelRequired(d) && !hasNamed(args, d.Name) {
				m.tell(api.ErrArgMissing, dir.Pos)
			}
		}
	}
	m.several(api.ErrDirSame, single)
}
