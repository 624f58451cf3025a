package tree

import (
	"math"
	"slices"

	"pergola/api"
	"pergola/utf"
)

// Sound: may v be written as JSON? Else the first fault and its path.
func Sound(v api.Value) ([]api.Step, api.Errno) {
	back, errno := firstFault(v)
	slices.Reverse(back)
	return back, errno
}

// firstFault is Sound with the path from the inside out: it is made on the way back from the fault, so that parts without a fault need none.
func firstFault(v api.Value) ([]api.Step, api.Errno) {
	if errno := ownFault(v); errno != api.OK {
		return nil, errno
	}
	for step, child := range children(v) {
		if back, errno := firstFault(child); errno != api.OK {
			return append(back, step), errno
		}
	}
	return nil, api.OK
}

// ownFault is what is wrong with a part apart from its children.
func ownFault(v api.Value) api.Errno {
	switch v.Kind {
	case api.KindNull, api.KindBool, api.KindInt, api.KindList:
		return api.OK
	case api.KindFloat:
		if math.IsNaN(v.Float) || math.IsInf(v.Float, 0) {
			return api.ErrFloat
		}
		return api.OK
	case api.KindString:
		if !utf.Clean(v.Text) {
			return api.ErrText
		}
		return api.OK
	case api.KindObject:
		return namesFault(v.Fields)
	}
	return api.ErrKind
}

func namesFault(members []api.Member) api.Errno {
	seen := make(map[string]struct{}, len(members))
	for _, m := range members {
		if !utf.Clean(m.Name) {
			return api.ErrText
		}
		if _, ok := seen[m.Name]; ok {
			return api.ErrTwice
		}
		seen[m.Name] = struct{}{}
	}
	return api.OK
}
