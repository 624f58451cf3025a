package fields

import (
	"pergola/api"
	"pergola/typesys"
)

// set is a set of names.
type set map[string]struct{}

func (s set) add(name string) { s[name] = struct{}{} }

func (s set) has(name string) bool {
	_, ok := s[name]
	return ok
}

// callee is what a definition says of arguments, laid out for its uses: it may be used often, and have many.
type callee struct {
	args     set
	required set // those that must be there
}

func newCallee(defs []api.InputDef) *callee {
	made := &callee{set{}, set{}}
	for _, def := range defs {
		made.args.add(def.Name)
		if isRequired(def) {
			made.required.add(def.Name)
		}
	}
	return made
}

// isRequired: must an argument be there?
func isRequired(d api.InputDef) bool {
	_, isMarked := typesys.Bare(d.Type)
	return isMarked && !d.HasDefault
}

// asksMoreThan: is an argument missing among these?
func (c *callee) asksMoreThan(args []api.Arg) bool {
	met := set{}
	for _, arg := range args {
		if c.required.has(arg.Name) {
			met.add(arg.Name)
		}
	}
	return len(met) < len(c.required)
}

// directive is a directive's definition, laid out for its uses.
type directive struct {
	*callee
	isRepeatable bool
	places       set // at which it may stand
}

func newDirective(d api.SysDef) *directive {
	made := &directive{newCallee(d.Inputs), d.Repeatable, set{}}
	for _, place := range d.Places {
		made.places.add(place.Name)
	}
	return made
}

// member is a field of a type.
type member struct {
	typ, field string
}

// catalog keeps what one call has looked up in a type system, which would copy a definition at each question.
type catalog struct {
	types      *typesys.Types
	fields     map[member]*callee
	directives map[string]*directive
}

func newCatalog(t *typesys.Types) *catalog {
	return &catalog{types: t, fields: map[member]*callee{}, directives: map[string]*directive{}}
}

// fieldOf is what a field's definition says of its arguments; nil, if it isn't known.
func (c *catalog) fieldOf(field api.Node) *callee {
	if !field.Known {
		return nil
	}
	key := member{field.Parent, field.Name}
	known, ok := c.fields[key]
	if !ok {
		def, _ := c.types.Field(field.Parent, field.Name)
		known = newCallee(def.Args)
		c.fields[key] = known
	}
	return known
}

// directiveOf is the directive of a mark; nil, if it isn't known.
func (c *catalog) directiveOf(mark api.Mark) *directive {
	if !mark.Known {
		return nil
	}
	known, ok := c.directives[mark.Dir.Name]
	if !ok {
		def, _ := c.types.Directive(mark.Dir.Name)
		known = newDirective(def)
		c.directives[mark.Dir.Name] = known
	}
	return known
}
