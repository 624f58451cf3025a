package lits

import (
	"slices"

	"pergola/api"
	"pergola/number"
)

// maker makes the value of a literal. Each default is made anew wherever it is wanted, for no two lists of a value share memory; the room ends those that have no end.
type maker struct {
	catalog *catalog
	room    int // how many parts the value may still have
}

// constant is the value of a literal of which nothing is known.
func (m *maker) constant(v api.Lit, at want) (api.Value, bool) {
	if len(m.catalog.faults(v, at)) > 0 {
		return api.Value{}, false
	}
	return m.value(v, at)
}

// value is the value of a literal that has no fault.
func (m *maker) value(v api.Lit, at want) (api.Value, bool) {
	if at.open() {
		return api.Value{}, false
	}
	return m.part(v, at)
}

// part is the value of a literal that has no fault, at a place that isn't open.
func (m *maker) part(v api.Lit, at want) (api.Value, bool) {
	if w, ok := at.(nonNull); ok {
		return m.part(v, w.rest)
	}
	if v.Kind == api.LitVar || m.room == 0 {
		return api.Value{}, false
	}
	m.room--
	if v.Kind == api.LitNull {
		return api.Value{}, true
	}
	switch w := at.(type) {
	case list:
		return m.atList(v, w)
	case *named:
		return m.atNamed(v, w)
	}
	return api.Value{}, false
}

func (m *maker) atList(v api.Lit, at list) (api.Value, bool) {
	if v.Kind == api.LitList {
		return m.items(v.Items, at.item)
	}
	return m.items([]api.Lit{v}, at.item)
}

func (m *maker) atNamed(v api.Lit, at *named) (api.Value, bool) {
	switch v.Kind {
	case api.LitList:
		return m.items(v.Items, at.inside())
	case api.LitObject:
		if at.kind == api.SysInput {
			return m.inputObject(v, at)
		}
		return m.freeObject(v, at.inside())
	}
	return leaf(v, at.name), true
}

func (m *maker) items(lits []api.Lit, at want) (api.Value, bool) {
	made := api.Value{Kind: api.KindList}
	for _, lit := range lits {
		item, ok := m.part(lit, at)
		if !ok {
			return api.Value{}, false
		}
		made.Items = append(made.Items, item)
	}
	return made, true
}

// freeObject has the members that the literal has.
func (m *maker) freeObject(v api.Lit, at want) (api.Value, bool) {
	made := api.Value{Kind: api.KindObject}
	for _, field := range v.Fields {
		value, ok := m.part(field.Value, at)
		if !ok {
			return api.Value{}, false
		}
		made.Fields = append(made.Fields, api.Member{Name: field.Name, Value: value})
	}
	return made, true
}

// inputObject has the members that the literal has and those that have a default, in the order of the type's fields.
func (m *maker) inputObject(v api.Lit, at *named) (api.Value, bool) {
	given := map[int]api.Lit{}
	numbers := slices.Clone(at.presets)
	for _, field := range v.Fields {
		number := at.numbers[field.Name]
		given[number] = field.Value
		numbers = append(numbers, number)
	}
	slices.Sort(numbers)
	made := api.Value{Kind: api.KindObject}
	for _, number := range slices.Compact(numbers) {
		lit, isGiven := given[number]
		value, ok := m.member(at.inputs[number], lit, isGiven)
		if !ok {
			return api.Value{}, false
		}
		made.Fields = append(made.Fields, api.Member{Name: at.inputs[number].Name, Value: value})
	}
	return made, true
}

// member is the value that is given for a field, or else its default's.
func (m *maker) member(d api.InputDef, given api.Lit, isGiven bool) (api.Value, bool) {
	at := m.catalog.want(d.Type)
	if isGiven {
		return m.value(given, at)
	}
	return m.constant(d.Default, at)
}

func leaf(v api.Lit, name string) api.Value {
	switch v.Kind {
	case api.LitInt, api.LitFloat:
		return numeral(v.Text, name)
	case api.LitBool:
		return api.Value{Kind: api.KindBool, Bool: v.Text == "true"}
	}
	return api.Value{Kind: api.KindString, Text: v.Text}
}

func numeral(text, name string) api.Value {
	num, _ := number.Read(text)
	switch {
	case name == "ID":
		return api.Value{Kind: api.KindString, Text: number.WholeText(num.Int)}
	case name == "Float" && num.Kind == api.KindInt:
		float, _ := number.OfWhole(num.Int)
		return api.Value{Kind: api.KindFloat, Float: float}
	}
	return api.Value{Kind: num.Kind, Int: num.Int, Float: num.Float}
}
