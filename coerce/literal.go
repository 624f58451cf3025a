package coerce

import (
	"pergola/api"
	"pergola/lits"
	"pergola/number"
	"pergola/tree"
	"pergola/typesys"
	"pergola/values"
)

// maker makes the values of literals in which variables stand. Where a part fails, nothing more is made.
type maker struct {
	*catalog
	vars *values.Lookup
	room int // how many parts the value may still have
}

func newMaker(t *typesys.Types, vars []api.Member) *maker {
	return &maker{catalog: newCatalog(t), vars: values.NewLookup(vars), room: api.MostParts}
}

// take: is there room for so many parts more?
func (m *maker) take(parts int) bool {
	m.room -= parts
	return m.room >= 0
}

func none() (api.Value, bool, api.Errno) {
	return api.Value{}, false, api.OK
}

func fail() (api.Value, bool, api.Errno) {
	return api.Value{}, false, api.ErrArgument
}

// value is what Literal answers.
func (m *maker) value(v api.Lit, want api.TypeRef) (api.Value, bool, api.Errno) {
	switch v.Kind {
	case api.LitVar:
		value, ok := m.vars.Find(v.Text)
		if !ok {
			return none()
		}
		return m.ready(value, want)
	case api.LitNull:
		return m.ready(api.Value{}, want)
	}
	bare, _ := typesys.Bare(want)
	if item, ok := typesys.Item(bare); ok {
		return m.atList(v, item)
	}
	return m.atNamed(v, bare)
}

// ready is a value that needs nothing more but that null may stand there.
func (m *maker) ready(v api.Value, want api.TypeRef) (api.Value, bool, api.Errno) {
	if values.IsNull(v) && isMarked(want) || !m.take(tree.Count(v)) {
		return fail()
	}
	return values.Plain(v), true, api.OK
}

func (m *maker) atList(v api.Lit, item api.TypeRef) (api.Value, bool, api.Errno) {
	if v.Kind == api.LitList {
		return m.items(v.Items, item)
	}
	return m.items([]api.Lit{v}, item)
}

func (m *maker) atNamed(v api.Lit, want api.TypeRef) (api.Value, bool, api.Errno) {
	at := m.find(want.Name)
	switch {
	case at.kind == api.SysInput && v.Kind == api.LitObject:
		return m.inputObject(v.Fields, at)
	case at.isCustom() && v.Kind == api.LitObject:
		return m.freeObject(v.Fields, want)
	case at.isCustom() && v.Kind == api.LitList:
		return m.items(v.Items, want)
	}
	return m.single(v, want, at)
}

// items is a list. In the place of an item that has no value stands null.
func (m *maker) items(all []api.Lit, want api.TypeRef) (api.Value, bool, api.Errno) {
	if !m.take(1) {
		return fail()
	}
	made := api.Value{Kind: api.KindList}
	for _, lit := range all {
		item, has, errno := m.value(lit, want)
		if !has && errno == api.OK {
			item, _, errno = m.ready(api.Value{}, want)
		}
		if errno != api.OK {
			return fail()
		}
		made.Items = append(made.Items, item)
	}
	return made, true, api.OK
}

// freeObject has the members of the literal that have a value.
func (m *maker) freeObject(fields []api.LitField, want api.TypeRef) (api.Value, bool, api.Errno) {
	if !m.take(1) {
		return fail()
	}
	made := api.Value{Kind: api.KindObject}
	for _, field := range fields {
		value, has, errno := m.value(field.Value, want)
		if errno != api.OK {
			return fail()
		}
		if has {
			made.Fields = append(made.Fields, api.Member{Name: field.Name, Value: value})
		}
	}
	return made, true, api.OK
}

func (m *maker) inputObject(fields []api.LitField, at *named) (api.Value, bool, api.Errno) {
	if !m.take(1) {
		return fail()
	}
	given := map[int]*api.Lit{}
	for i, field := range fields {
		at.give(given, field.Name, &fields[i].Value)
	}
	made := api.Value{Kind: api.KindObject}
	for _, turn := range turns(given, at.required, at.preset) {
		value, has, errno := m.field(given, at, turn)
		if errno != api.OK {
			return fail()
		}
		if has {
			made.Fields = append(made.Fields, api.Member{Name: at.inputs[turn].Name, Value: value})
		}
	}
	return made, true, api.OK
}

// give lays a literal at its field's number. One that no field is named by is passed over, and of several of one name all but the first.
func (n *named) give(given map[int]*api.Lit, name string, v *api.Lit) {
	number, isKnown := n.numbers[name]
	if isKnown && given[number] == nil {
		given[number] = v
	}
}

// field is the value of an input type's field or of an argument: that of the literal that is given, or else the default's.
func (m *maker) field(given map[int]*api.Lit, at *named, number int) (api.Value, bool, api.Errno) {
	input := at.inputs[number]
	if v := given[number]; v != nil {
		value, has, errno := m.value(*v, input.Type)
		if has || errno != api.OK {
			return value, has, errno
		}
	}
	switch {
	case input.HasDefault:
		return m.fill(input)
	case isMarked(input.Type):
		return fail()
	}
	return none()
}

// fill is a field's default, which takes its parts of the room for the whole value.
func (m *maker) fill(input api.InputDef) (api.Value, bool, api.Errno) {
	made, rest, ok := m.constant(input.Default, input.Type, m.room)
	m.room = rest
	if !ok {
		return fail()
	}
	return made, true, api.OK
}

// constant is a default's value, if it has one, and how much room it leaves. It is what layer 13's Const answers, which would look up anew what is known here. The room ends defaults that have no end.
func (c *catalog) constant(v api.Lit, want api.TypeRef, room int) (api.Value, int, bool) {
	m := maker{catalog: c, vars: values.NewLookup(nil), room: room}
	made, has, errno := m.value(v, want)
	return made, m.room, has && errno == api.OK
}

// single is the value of a literal that no variable can stand in.
func (m *maker) single(v api.Lit, want api.TypeRef, at *named) (api.Value, bool, api.Errno) {
	made, ok := m.singleAt(v, want, at)
	if !ok || !m.take(1) {
		return fail()
	}
	return made, true, api.OK
}

// singleAt leaves the built-in scalars to layer 13, which would copy any other type at each question: all names of an enum, all directives of a scalar.
func (m *maker) singleAt(v api.Lit, want api.TypeRef, at *named) (api.Value, bool) {
	switch {
	case at.kind == api.SysEnum:
		made, ok := leaf(values.Text(v.Text), at)
		return made, ok && v.Kind == api.LitEnum
	case at.isCustom():
		return said(v)
	}
	return lits.Const(m.types, v, want)
}

// said is the value of a literal at a scalar type that takes all of them.
func said(v api.Lit) (api.Value, bool) {
	switch v.Kind {
	case api.LitInt, api.LitFloat:
		num, errno := number.Read(v.Text)
		return api.Value{Kind: num.Kind, Int: num.Int, Float: num.Float}, errno == api.OK
	case api.LitBool:
		return api.Value{Kind: api.KindBool, Bool: v.Text == "true"}, true
	case api.LitString, api.LitEnum:
		return values.Text(v.Text), true
	}
	return api.Value{}, false
}

// arguments is what Arguments answers. Each argument is a value for itself, with room of its own.
func (m *maker) arguments(defs []api.InputDef, args []api.Arg) ([]api.Member, api.Errno) {
	at := newInputs(defs)
	given := map[int]*api.Lit{}
	for i, arg := range args {
		at.give(given, arg.Name, &args[i].Value)
	}
	var made []api.Member
	for _, turn := range turns(given, at.required, at.preset) {
		m.room = api.MostParts
		value, has, errno := m.field(given, at, turn)
		if errno != api.OK {
			return nil, api.ErrArgument
		}
		if has {
			made = append(made, api.Member{Name: defs[turn].Name, Value: value})
		}
	}
	return made, api.OK
}
