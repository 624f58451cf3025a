// Package rules is what the layers of a document's rules share: how a rule tells what is wrong, and the type system that it asks.
package rules

import (
	"pergola/api"
	"pergola/scope"
	"pergola/typesys"
)

// Placer is what has a place in the source, at which its faults are told.
type Placer interface {
	At() api.Pos
}

// Each is one fault for each thing that is wrong.
func Each[T Placer](kind api.Errno, things []T, isWrong func(T) bool) []api.Fault {
	var all []api.Fault
	for _, thing := range things {
		if isWrong(thing) {
			all = append(all, api.Fault{Kind: kind, Pos: []api.Pos{thing.At()}})
		}
	}
	return all
}

// Shared is one fault for each name that several things bear, with the places of them all. (They come in any order, and are sorted ahead of telling.) A thing of which name answers false bears none.
func Shared[T Placer, Name comparable](kind api.Errno, things []T, name func(T) (Name, bool)) []api.Fault {
	places := map[Name][]api.Pos{}
	for _, thing := range things {
		if key, ok := name(thing); ok {
			places[key] = append(places[key], thing.At())
		}
	}
	var all []api.Fault
	for _, bearers := range places {
		if len(bearers) > 1 {
			all = append(all, api.Fault{Kind: kind, Pos: bearers})
		}
	}
	return all
}

// Types is the sheet's type system. In the place of nil it is that of no definitions, as which nil answers, but by building it at each question.
func Types(s *scope.Sheet) *typesys.Types {
	types := s.Types()
	if types == nil {
		return typesys.Build(nil)
	}
	return types
}
