package result

import (
	"slices"

	"pergola/typesys"
)

// isLeaf: is it a scalar or an enum? These alone are types of input and of output. (To look at the type itself would copy it.)
func isLeaf(t *typesys.Types, name string) bool {
	return t.Input(name) && t.Output(name)
}

// isComposite: is it an object, an interface or a union?
func isComposite(t *typesys.Types, name string) bool {
	return t.Output(name) && !t.Input(name)
}

// isPossible: is it one of the objects that a composite type may stand for? They may be many, and aren't listed for that: an object stands for itself alone, so it is among them if the two meet.
func isPossible(t *typesys.Types, want, name string) bool {
	return t.Meet(want, name) && isObject(t, name)
}

// isObject: an object stands for itself, and no interface or union does.
func isObject(t *typesys.Types, name string) bool {
	return slices.Contains(t.Possible(name), name)
}
