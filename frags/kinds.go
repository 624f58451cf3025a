package frags

import (
	"pergola/rules"
	"pergola/scope"
	"pergola/typesys"
)

// kind is what counts of a type's kind here.
type kind int

const (
	unknown kind = iota // no type's name
	simple              // not composite
	composite
)

// meeting is whether two types have an object type in common.
type meeting struct {
	isThere bool
}

// pair is the names of two types.
type pair struct {
	one, other string
}

// kinds tells types apart, and keeps what it has found of pairs: the type system goes through all objects of a type at each question.
type kinds struct {
	types    *typesys.Types
	meetings map[pair]meeting
}

func newKinds(s *scope.Sheet) *kinds {
	return &kinds{rules.Types(s), map[pair]meeting{}}
}

// of doesn't ask for the type itself, for that would copy its definition. Of all types just the composite ones don't go in.
func (k *kinds) of(name string) kind {
	switch {
	case k.types.Input(name):
		return simple
	case k.types.Output(name):
		return composite
	}
	return unknown
}

// areApart: is there a scope, and a composite type that can never stand in it?
func (k *kinds) areApart(parent, on string) bool {
	return parent != "" && k.of(on) == composite && !k.meet(parent, on)
}

func (k *kinds) meet(parent, on string) bool {
	key := pair{parent, on}
	found, ok := k.meetings[key]
	if !ok {
		found = meeting{k.types.Meet(parent, on)}
		k.meetings[key] = found
	}
	return found.isThere
}
