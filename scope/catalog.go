package scope

import (
	"pergola/api"
	"pergola/typesys"
)

// place is what the type system says of a literal's place; of the zero place it says nothing.
type place struct {
	typ        api.TypeRef
	isTyped    bool
	hasDefault bool
}

// item is the place of the items of a list that stands at the place.
func (p place) item() place {
	typ, ok := typesys.Item(p.typ)
	return place{typ: typ, isTyped: ok}
}

// places are those of arguments or of an input type's fields, by their names.
type places map[string]place

// callee is what may have arguments: a field or a directive. The zero one is not known.
type callee struct {
	isKnown bool
	args    places
	typ     api.TypeRef // a field's type
	scope   string      // in which a field's braces stand
}

// member is a field of a type.
type member struct {
	typ, field string
}

// catalog keeps what has been looked up in a type system, which would copy a definition at each question.
type catalog struct {
	types      *typesys.Types
	fields     map[member]callee
	directives map[string]callee
	inputs     map[string]places
}

func newCatalog(t *typesys.Types) *catalog {
	if t == nil {
		t = typesys.Build(nil) // as which nil answers, but by building it at each question
	}
	return &catalog{types: t, fields: map[member]callee{}, directives: map[string]callee{}, inputs: map[string]places{}}
}

func (c *catalog) isType(name string) bool {
	return c.types.Within(name, name)
}

// isOpen: does the reference name no type of input?
func (c *catalog) isOpen(r api.TypeRef) bool {
	return !c.types.Input(r.Name)
}

func (c *catalog) root(kind api.DefKind) string {
	return c.types.Root(kind)
}

// composite is the name itself, if it is a composite type's, else empty. Just the composite types have the field __typename, and to ask for that copies no definition.
func (c *catalog) composite(name string) string {
	if _, ok := c.types.Field(name, "__typename"); !ok {
		return ""
	}
	return name
}

func (c *catalog) field(typ, name string) callee {
	key := member{typ, name}
	known, ok := c.fields[key]
	if !ok {
		known = c.findField(typ, name)
		c.fields[key] = known
	}
	return known
}

func (c *catalog) findField(typ, name string) callee {
	def, ok := c.types.Field(typ, name)
	if !ok {
		return callee{}
	}
	return callee{isKnown: true, args: c.placesOf(def.Args), typ: def.Type, scope: c.composite(def.Type.Name)}
}

func (c *catalog) directive(name string) callee {
	known, ok := c.directives[name]
	if !ok {
		known = c.findDirective(name)
		c.directives[name] = known
	}
	return known
}

func (c *catalog) findDirective(name string) callee {
	def, ok := c.types.Directive(name)
	if !ok {
		return callee{}
	}
	return callee{isKnown: true, args: c.placesOf(def.Inputs)}
}

// inside are the places of the fields of an object that stands at a place. A list's marks don't count, for an object there stands for the list's one item.
func (c *catalog) inside(at place) places {
	if !at.isTyped {
		return nil
	}
	found, ok := c.inputs[at.typ.Name]
	if !ok {
		def, _ := c.types.Type(at.typ.Name)
		found = c.placesOf(def.Inputs)
		c.inputs[at.typ.Name] = found
	}
	return found
}

// placesOf are the places that definitions give; of several of one name the first counts.
func (c *catalog) placesOf(defs []api.InputDef) places {
	found := places{}
	for _, def := range defs {
		if _, ok := found[def.Name]; !ok {
			found[def.Name] = c.placeOf(def)
		}
	}
	return found
}

func (c *catalog) placeOf(d api.InputDef) place {
	if c.isOpen(d.Type) {
		return place{}
	}
	return place{typ: d.Type, isTyped: true, hasDefault: d.HasDefault}
}
