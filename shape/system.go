package shape

import (
	"slices"

	"pergola/api"
	"pergola/typesys"
)

// system is a type system laid out for the rules. Each definition is asked for once, for a type system copies what it answers.
type system struct {
	asked       *typesys.Types
	schema      api.SysDef
	types       []api.SysDef   // the own types
	numbers     map[string]int // of the own types, by their names
	directives  []api.SysDef   // the own directives
	fields      []api.FieldDef // all fields of own types
	values      []api.ValueDef // all values of own types
	args        []api.InputDef // all arguments of these fields and of own directives
	inputFields []api.InputDef // all input fields of own types
}

func newSystem(t *typesys.Types) *system {
	s := &system{asked: t, schema: t.Schema(), numbers: map[string]int{}}
	for i, name := range ahead(t.Names(), "Int") {
		def, _ := t.Type(name)
		s.numbers[name] = i
		s.addType(def)
	}
	for _, name := range ahead(t.Directives(), "skip") {
		def, _ := t.Directive(name)
		s.directives = append(s.directives, def)
		s.args = append(s.args, def.Inputs...)
	}
	return s
}

// ahead are the own names: those ahead of the first built-in one, whose name no own one bears.
func ahead(names []string, builtIn string) []string {
	return names[:slices.Index(names, builtIn)]
}

func (s *system) addType(d api.SysDef) {
	s.types = append(s.types, d)
	s.fields = append(s.fields, d.Fields...)
	s.values = append(s.values, d.Values...)
	s.inputFields = append(s.inputFields, d.Inputs...)
	for _, f := range d.Fields {
		s.args = append(s.args, f.Args...)
	}
}

// isOwn: is it the name of an own type of that kind?
func (s *system) isOwn(name string, kind api.SysKind) bool {
	number, ok := s.numbers[name]
	return ok && s.types[number].Kind == kind
}

// isType: is it the name of a type, own or built-in?
func (s *system) isType(name string) bool {
	return s.asked.Within(name, name)
}

// isRequired: must an argument be there?
func isRequired(d api.InputDef) bool {
	_, isMarked := typesys.Bare(d.Type)
	return isMarked && !d.HasDefault
}
