package fields

import "pergola/api"

// placer is what has a place in the source, at which its faults are told.
type placer interface {
	place() api.Pos
}

// each is one fault for each thing that is wrong.
func each[T placer](kind api.Errno, things []T, isWrong func(T) bool) []api.Fault {
	var all []api.Fault
	for _, thing := range things {
		if isWrong(thing) {
			all = append(all, api.Fault{Kind: kind, Pos: []api.Pos{thing.place()}})
		}
	}
	return all
}

// shared is one fault for each name that several things bear, with the places of them all. (They come in any order, and are sorted ahead of telling.) A thing of which name answers false bears none.
func shared[T placer, Name comparable](kind api.Errno, things []T, name func(T) (Name, bool)) []api.Fault {
	places := map[Name][]api.Pos{}
	for _, thing := range things {
		if key, ok := name(thing); ok {
			places[key] = append(places[key], thing.place())
		}
	}
	var all []api.Fault
	for _, bearers := range places {
		if len(bearers) > 1 {
			all = append(all, api.Fault{Kind: kind, Pos: bearers})
		}
	}
	return all
}
