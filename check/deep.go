package check

import (
	"slices"

	"pergola/api"
	"pergola/knots"
)

// spread is a fragment's spread in a definition.
type spread struct {
	target int // the fragment that it means
	above  int // how many of the definition's fields it lies beneath
}

// outline is what counts of a definition here.
type outline struct {
	own      int // the depth of the fields that stand in it
	spreads  []spread
	hasStray bool // a spread that means no fragment
}

// outlinesOf are those of all definitions.
func outlinesOf(defs []api.Def) []outline {
	fragments := firstFragments(defs)
	outlines := make([]outline, len(defs))
	for i, def := range defs {
		outlines[i].add(def.Sels, 0, fragments)
	}
	return outlines
}

// firstFragments numbers the fragments; of several of one name the first counts.
func firstFragments(defs []api.Def) map[string]int {
	numbers := map[string]int{}
	for i, def := range defs {
		if _, isThere := numbers[def.Name]; def.Kind == api.DefFragment && !isThere {
			numbers[def.Name] = i
		}
	}
	return numbers
}

// add takes in selections that lie beneath so many fields.
func (o *outline) add(sels []api.Sel, above int, fragments map[string]int) {
	for _, sel := range sels {
		switch sel.Kind {
		case api.SelField:
			o.own = max(o.own, above+1)
			o.add(sel.Sels, above+1, fragments)
		case api.SelInline:
			o.add(sel.Sels, above, fragments)
		case api.SelSpread:
			target, ok := fragments[sel.Name]
			if !ok {
				o.hasStray = true
				continue
			}
			o.spreads = append(o.spreads, spread{target, above})
		}
	}
}

// depth is how deep a definition's fields lie, fragments and all. It is not known where a spread means no fragment or is on a ring.
type depth struct {
	fields  int
	isKnown bool
}

// depthsOf are those of all definitions, each found once, however often it is spread. No call is nested, for a row of fragments may be as long as the document.
func depthsOf(outlines []outline) []depth {
	depths := make([]depth, len(outlines))
	// No set leads to one ahead of it, so that from the last one on all that a definition spreads is found ahead of it. Only on a ring it isn't, and there it never is.
	for _, knot := range slices.Backward(knots.Of(targetsOf(outlines))) {
		for _, def := range knot {
			depths[def] = outlines[def].depth(depths)
		}
	}
	return depths
}

func targetsOf(outlines []outline) [][]int {
	targets := make([][]int, len(outlines))
	for i, o := range outlines {
		for _, s := range o.spreads {
			targets[i] = append(targets[i], s.target)
		}
	}
	return targets
}

// depth is the definition's, by the depths of the fragments that it spreads.
func (o outline) depth(depths []depth) depth {
	if o.hasStray {
		return depth{}
	}
	fields := o.own
	for _, s := range o.spreads {
		target := depths[s.target]
		if !target.isKnown {
			return depth{}
		}
		fields = max(fields, s.above+target.fields)
	}
	return depth{fields, true}
}
