package lits

import (
	"pergola/api"
	"pergola/typesys"
)

// want is the type of a literal's place, of one of three kinds: *named, list, nonNull.
type want interface {
	// open: is nothing asked of what stands there? No mark makes an open type less open.
	open() bool
}

type list struct {
	item want
}

type nonNull struct {
	rest want
}

// named is a type by its name. Of kind 0 it is open.
type named struct {
	kind     api.SysKind
	name     string
	inputs   []api.InputDef // an input type's fields
	numbers  map[string]int // of an enum's value or an input type's field; of several of one name the first one's
	required int            // how many of the fields a literal must have
	presets  []int          // the numbers of the fields that have a default
}

func (n *named) open() bool  { return n.kind == 0 }
func (l list) open() bool    { return l.item.open() }
func (n nonNull) open() bool { return n.rest.open() }

// catalog keeps what one call has looked up in a type system, which would copy a type at each question.
type catalog struct {
	types *typesys.Types
	found map[string]*named
}

func newCatalog(t *typesys.Types) *catalog {
	return &catalog{types: t, found: map[string]*named{}}
}

func (c *catalog) want(r api.TypeRef) want {
	if rest, ok := typesys.Bare(r); ok {
		return nonNull{c.want(rest)}
	}
	if item, ok := typesys.Item(r); ok {
		return list{c.want(item)}
	}
	return c.find(r.Name)
}

func (c *catalog) find(name string) *named {
	if known, ok := c.found[name]; ok {
		return known
	}
	made := &named{}
	if name != "" && c.types.Input(name) {
		def, _ := c.types.Type(name)
		made = newNamed(def)
	}
	c.found[name] = made
	return made
}

func newNamed(d api.SysDef) *named {
	n := &named{kind: d.Kind, name: d.Name, numbers: map[string]int{}}
	switch d.Kind {
	case api.SysEnum:
		for i, value := range d.Values {
			n.numbers[value.Name] = i
		}
	case api.SysInput:
		n.inputs = d.Inputs
		n.numberInputs()
	}
	return n
}

func (n *named) numberInputs() {
	for i, input := range n.inputs {
		if _, ok := n.numbers[input.Name]; ok {
			continue
		}
		n.numbers[input.Name] = i
		if isRequired(input) {
			n.required++
		}
		if input.HasDefault {
			n.presets = append(n.presets, i)
		}
	}
}

// isRequired goes by the mark alone: that a field must be there is asked of the object, whatever stands at the field's place.
func isRequired(d api.InputDef) bool {
	_, isMarked := typesys.Bare(d.Type)
	return isMarked && !d.HasDefault
}

// inside is the place of what stands in a list or an object at this type, where the type itself has no fields.
func (n *named) inside() *named {
	if n.isCustom() {
		return n
	}
	return &named{}
}

// field is the place of a field's value in an object at a named type; false if that is an input type without such a field.
func (c *catalog) field(at *named, name string) (want, bool) {
	if at.kind != api.SysInput {
		return at.inside(), true
	}
	number, ok := at.numbers[name]
	if !ok {
		return at.inside(), false
	}
	return c.want(at.inputs[number].Type), true
}
