package scope

import (
	"slices"

	"pergola/api"
)

// firstFragments numbers the fragments; of several of one name the first counts.
func firstFragments(defs []api.Def) map[string]int {
	numbers := map[string]int{}
	for i, def := range defs {
		if def.Kind != api.DefFragment {
			continue
		}
		if _, ok := numbers[def.Name]; !ok {
			numbers[def.Name] = i
		}
	}
	return numbers
}

// Fragment is the number of the first fragment of a name.
func (s *Sheet) Fragment(name string) (int, bool) {
	number, ok := s.whole().fragments[name]
	return number, ok
}

// Reach are the fragments that a definition reaches by spreads.
func (s *Sheet) Reach(def int) []int {
	s = s.whole()
	next, _ := element(s.targets, def)
	// A list of its own, for it grows while it is gone through.
	waiting := slices.Clone(next)
	reached := make([]bool, len(s.targets))
	for len(waiting) > 0 {
		last := len(waiting) - 1
		number := waiting[last]
		waiting = waiting[:last]
		if !reached[number] {
			reached[number] = true
			waiting = append(waiting, s.targets[number]...)
		}
	}
	return numbersOf(reached)
}

// numbersOf are the numbers of the elements that are true, rising.
func numbersOf(marks []bool) []int {
	var numbers []int
	for i, is := range marks {
		if is {
			numbers = append(numbers, i)
		}
	}
	return numbers
}
