package introspect

import (
	"strings"

	"pergola/api"
	"pergola/typesys"
)

// subject is what a known handle speaks of.
type subject interface {
	// answer is asked only for the fields that the table gives the handle's type.
	answer(field string, args []api.Member) api.Value
}

// find is what a handle of an introspection type speaks of; false, if it is no known one.
func find(t *typesys.Types, typ, own string) (subject, bool) {
	switch typ {
	case schemaType:
		return schema{t}, own == ""
	case typeType:
		return findType(t, own)
	case fieldType:
		return findField(t, own)
	case inputValueType:
		return findInputValue(t, own)
	case enumValueType:
		return findEnumValue(t, own)
	case directiveType:
		return findDirective(t, own)
	}
	return nil, false
}

func findType(t *typesys.Types, own string) (subject, bool) {
	ref, ok := readReference(own)
	if !ok || !isType(t, ref.Name) {
		return nil, false
	}
	if ref.Wrap == "" {
		return namedType{t, ref.Name}, true
	}
	return wrappedType{ref}, true
}

// isType asks for no definition, for a type system copies what it answers.
func isType(t *typesys.Types, name string) bool {
	return t.Within(name, name)
}

// readReference takes a written reference apart; false, if no reference with a well-made wrap is written so.
func readReference(text string) (api.TypeRef, bool) {
	marked := strings.TrimLeft(text, "[")
	name := marked
	if end := strings.IndexAny(marked, "]!"); end >= 0 {
		name = marked[:end]
	}
	ref := api.TypeRef{Name: name, Wrap: marked[len(name):]}
	return ref, isWrap(ref.Wrap) && written(ref) == text
}

func isWrap(wrap string) bool {
	return strings.Trim(wrap, "]!") == "" && !strings.Contains(wrap, "!!")
}

// cutPart takes the text of a type's part apart. Without a point the name is empty, which nothing bears.
func cutPart(own string) (owner, name string) {
	owner, name, _ = strings.Cut(own, ".")
	return owner, name
}

func findField(t *typesys.Types, own string) (subject, bool) {
	owner, name := cutPart(own)
	def, ok := fieldOf(t, owner, name)
	return typeField{owner, def}, ok
}

// fieldOf is a field in a type's Fields. Names with two underscores are left out: no such field of a sound type system stands there, but some types have such fields by themselves.
func fieldOf(t *typesys.Types, owner, name string) (api.FieldDef, bool) {
	if strings.HasPrefix(name, "__") {
		return api.FieldDef{}, false
	}
	return t.Field(owner, name)
}

func findInputValue(t *typesys.Types, own string) (subject, bool) {
	inputs, name := inputsAround(t, own)
	def, ok := first(inputs, name, inputName)
	return inputValue{def}, ok
}

// inputsAround are the inputs among which the one of that text stands, if there is one, and its name.
func inputsAround(t *typesys.Types, own string) ([]api.InputDef, string) {
	owner, arg, isArg := cutArgument(own)
	if !isArg {
		typ, name := cutPart(own)
		def, _ := t.Type(typ)
		return def.Inputs, name
	}
	if name, ok := strings.CutPrefix(owner, "@"); ok {
		def, _ := t.Directive(name)
		return def.Inputs, arg
	}
	typ, name := cutPart(owner)
	def, _ := fieldOf(t, typ, name)
	return def.Args, arg
}

// cutArgument cuts an argument in round brackets off.
func cutArgument(own string) (owner, name string, ok bool) {
	open, ok := strings.CutSuffix(own, ")")
	if !ok {
		return "", "", false
	}
	return strings.Cut(open, "(")
}

func findEnumValue(t *typesys.Types, own string) (subject, bool) {
	owner, name := cutPart(own)
	typ, _ := t.Type(owner)
	def, ok := first(typ.Values, name, valueName)
	return enumValue{def}, ok
}

func findDirective(t *typesys.Types, own string) (subject, bool) {
	name, ok := strings.CutPrefix(own, "@")
	if !ok {
		return nil, false
	}
	def, ok := t.Directive(name)
	return directive{def}, ok
}
