package coerce

import (
	"errors"

	"pergola/api"
	"pergola/printer"
	"pergola/tree"
)

// Misfit is Input's error: where in the value, and the type that is wanted there.
type Misfit struct {
	Path []api.Step
	Want api.TypeRef
}

// Error is a text about the misfit.
func (m *Misfit) Error() string {
	if m == nil {
		return ""
	}
	text := ErrMisfit.Error()
	if len(m.Path) > 0 {
		text += " at " + tree.PathText(m.Path)
	}
	if m.Want != (api.TypeRef{}) {
		text += ": wanted is " + printer.Type(m.Want)
	}
	return text
}

// Unwrap is ErrMisfit.
func (m *Misfit) Unwrap() error { return ErrMisfit }

// pathOf is where in a value an error lies. One that speaks of no value has no path.
func pathOf(err error) []api.Step {
	var misfit *Misfit
	if errors.As(err, &misfit) {
		return misfit.Path
	}
	return nil
}
