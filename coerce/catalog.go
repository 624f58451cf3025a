package coerce

import (
	"slices"

	"pergola/api"
	"pergola/typesys"
)

// catalog keeps what one call has looked up in a type system, which would copy a type at each question.
type catalog struct {
	types *typesys.Types
	found map[string]*named
}

// newCatalog takes the type system of no definitions in the place of nil, which would be built anew at each question.
func newCatalog(t *typesys.Types) *catalog {
	if t == nil {
		t = typesys.Build(nil)
	}
	return &catalog{types: t, found: map[string]*named{}}
}

// named is a type of input by its name. Of kind 0 it is open.
type named struct {
	kind     api.SysKind
	name     string
	numbers  map[string]int // of an enum's value or an input type's field
	inputs   []api.InputDef // an input type's fields
	required []int          // the numbers of the fields that must be given
	preset   []int          // the numbers of the fields that have a default
}

func (c *catalog) find(name string) *named {
	if known, ok := c.found[name]; ok {
		return known
	}
	made := &named{}
	if c.types.Input(name) {
		def, _ := c.types.Type(name)
		made = newNamed(def)
	}
	c.found[name] = made
	return made
}

func newNamed(d api.SysDef) *named {
	if d.Kind == api.SysInput {
		return newInputs(d.Inputs)
	}
	n := &named{kind: d.Kind, name: d.Name, numbers: map[string]int{}}
	for i, value := range d.Values {
		n.numbers[value.Name] = i
	}
	return n
}

// newInputs is an input type with these fields. A list of arguments is one without a name.
func newInputs(defs []api.InputDef) *named {
	n := &named{kind: api.SysInput, numbers: map[string]int{}, inputs: defs}
	for i, def := range defs {
		if _, ok := n.numbers[def.Name]; ok {
			continue
		}
		n.numbers[def.Name] = i
		switch {
		case def.HasDefault:
			n.preset = append(n.preset, i)
		case isMarked(def.Type):
			n.required = append(n.required, i)
		}
	}
	return n
}

// isMarked: does the type's last mark forbid null?
func isMarked(r api.TypeRef) bool {
	_, ok := typesys.Bare(r)
	return ok
}

func (n *named) isCustom() bool {
	switch n.name {
	case "Int", "Float", "String", "Boolean", "ID":
		return false
	}
	return n.kind == api.SysScalar
}

// turns are the numbers of the fields at which something is to be done, in their order: a great type's other fields aren't gone through for each of many objects.
func turns[T any](given map[int]T, more ...[]int) []int {
	all := slices.Concat(more...)
	for number := range given {
		all = append(all, number)
	}
	slices.Sort(all)
	return slices.Compact(all)
}
