package overlap

import (
	"slices"

	"pergola/rules"
	"pergola/scope"
	"pergola/typesys"
)

// kind is what counts of a type's kind here.
type kind int

const (
	neither kind = iota
	object
	abstract // an interface or a union
)

// kinds tells types apart, and asks a type system for each of them once.
type kinds struct {
	types *typesys.Types
	known map[string]kind
}

func newKinds(s *scope.Sheet) *kinds {
	return &kinds{rules.Types(s), map[string]kind{}}
}

func (k *kinds) of(name string) kind {
	found, ok := k.known[name]
	if !ok {
		found = k.find(name)
		k.known[name] = found
	}
	return found
}

// find doesn't ask for the type itself, for that would copy its definition. Of composite types just the objects stand for themselves.
func (k *kinds) find(name string) kind {
	switch {
	case k.types.Input(name) || !k.types.Output(name):
		return neither
	case slices.Contains(k.types.Possible(name), name):
		return object
	}
	return abstract
}
