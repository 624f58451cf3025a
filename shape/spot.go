package shape

import "pergola/api"

// use is a directive that stands at a spot.
type use struct {
	api.Dir
	place string     // the name of the spot's place
	of    *directive // nil where there is none of that name
}

// directive is a directive's definition laid out for its uses: one may be used often, and its lists may be long.
type directive struct {
	repeatable bool
	places     map[string]struct{}
	types      map[string]api.TypeRef // of the arguments, the first of each name
	required   map[string]struct{}    // the names of arguments that must be there
}

func newDirective(d api.SysDef) *directive {
	made := &directive{
		repeatable: d.Repeatable,
		places:     map[string]struct{}{},
		types:      map[string]api.TypeRef{},
		required:   map[string]struct{}{},
	}
	for _, place := range d.Places {
		made.places[place.Name] = struct{}{}
	}
	for _, arg := range d.Inputs {
		if !made.hasArg(arg.Name) {
			made.types[arg.Name] = arg.Type
		}
		if isRequired(arg) {
			made.required[arg.Name] = struct{}{}
		}
	}
	return made
}

// stands: may the directive stand at a place?
func (d *directive) stands(place string) bool {
	_, ok := d.places[place]
	return ok
}

func (d *directive) hasArg(name string) bool {
	_, ok := d.types[name]
	return ok
}

// asksMoreThan: is an argument missing among those of a use?
func (d *directive) asksMoreThan(args []api.Arg) bool {
	met := map[string]struct{}{}
	for _, arg := range args {
		if _, ok := d.required[arg.Name]; ok {
			met[arg.Name] = struct{}{}
		}
	}
	return len(met) < len(d.required)
}

// spots are the uses at each spot of the type system.
func (s *system) spots() [][]use {
	known := s.known()
	var spots [][]use
	add := func(place string, dirs []api.Dir) {
		var uses []use
		for _, dir := range dirs {
			uses = append(uses, use{dir, place, known[dir.Name]})
		}
		spots = append(spots, uses)
	}
	add("SCHEMA", s.schema.Dirs)
	for _, d := range s.types {
		add(placeOf(d.Kind), d.Dirs)
	}
	for _, f := range s.fields {
		add("FIELD_DEFINITION", f.Dirs)
	}
	for _, arg := range s.args {
		add("ARGUMENT_DEFINITION", arg.Dirs)
	}
	for _, value := range s.values {
		add("ENUM_VALUE", value.Dirs)
	}
	for _, input := range s.inputFields {
		add("INPUT_FIELD_DEFINITION", input.Dirs)
	}
	return spots
}

// known are all directives by their names, the built-in ones too.
func (s *system) known() map[string]*directive {
	all := map[string]*directive{}
	for _, name := range s.asked.Directives() {
		def, _ := s.asked.Directive(name)
		all[name] = newDirective(def)
	}
	return all
}

func placeOf(kind api.SysKind) string {
	switch kind {
	case api.SysScalar:
		return "SCALAR"
	case api.SysObject:
		return "OBJECT"
	case api.SysInterface:
		return "INTERFACE"
	case api.SysUnion:
		return "UNION"
	case api.SysEnum:
		return "ENUM"
	}
	return "INPUT_OBJECT"
}
