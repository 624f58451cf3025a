package shape

import (
	"slices"

	"pergola/knots"
)

// graph says of each node, by its number, to which others it leads.
type graph [][]int

// onRings are the nodes that are come back to from themselves by one step or more.
func (g graph) onRings() []int {
	var nodes []int
	for _, knot := range knots.Of(g) {
		if len(knot) > 1 || slices.Contains(g[knot[0]], knot[0]) {
			nodes = append(nodes, knot...)
		}
	}
	return nodes
}
