package introspect

import (
	"slices"

	"pergola/api"
)

// first is the first of the things that bears a name.
func first[T any](things []T, name string, nameOf func(T) string) (T, bool) {
	number := slices.IndexFunc(things, func(thing T) bool { return nameOf(thing) == name })
	if number < 0 {
		var none T
		return none, false
	}
	return things[number], true
}

func memberName(m api.Member) string  { return m.Name }
func inputName(d api.InputDef) string { return d.Name }
func valueName(d api.ValueDef) string { return d.Name }
func dirName(d api.Dir) string        { return d.Name }
func argName(a api.Arg) string        { return a.Name }
