package vars

import (
	"iter"
	"slices"

	"pergola/api"
	"pergola/knots"
	"pergola/scope"
)

// reach is what definitions come to by spreads.
type reach struct {
	targets [][]int // of each definition the fragments that its spreads mean
	knots   [][]int // the definitions in sets of those that reach one another; none reaches one ahead of its set
}

func newReach(s *scope.Sheet, defs int) *reach {
	targets := make([][]int, defs)
	for _, node := range s.Nodes() {
		if node.Kind != api.SelSpread {
			continue
		}
		if target, ok := s.Fragment(node.Name); ok {
			targets[node.Def] = append(targets[node.Def], target)
		}
	}
	return &reach{targets, knots.Of(targets)}
}

// round is what definitions come to, of 64 things at most, each of which stands at some sites.
type round struct {
	first  int // the number of the first thing
	things [][]site
	masks  []uint64 // of each definition a bit for each thing that stands in it or in a fragment that it reaches
}

// rounds goes through things, 64 at a time, so that they are carried along the spreads together. (To ask the sheet what each operation reaches would take a walk for each, past all that many operations have in common.)
func (r *reach) rounds(things [][]site) iter.Seq[round] {
	return func(yield func(round) bool) {
		first := 0
		for some := range slices.Chunk(things, 64) {
			if !yield(round{first, some, r.masks(some)}) {
				return
			}
			first += len(some)
		}
	}
}

func (r *reach) masks(things [][]site) []uint64 {
	masks := make([]uint64, len(r.targets))
	for bit, sites := range things {
		for _, at := range sites {
			masks[at.def] |= 1 << bit
		}
	}
	for _, knot := range slices.Backward(r.knots) {
		r.join(knot, masks)
	}
	return masks
}

// join gives to each definition of a set all that one of the set has or comes to.
func (r *reach) join(knot []int, masks []uint64) {
	all := uint64(0)
	for _, def := range knot {
		all |= masks[def]
		for _, target := range r.targets[def] {
			all |= masks[target]
		}
	}
	for _, def := range knot {
		masks[def] = all
	}
}
