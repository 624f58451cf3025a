// Package knots finds what leads back to itself.
package knots

import "slices"

// Of are the nodes of a graph in sets of those that lead to one another (Kosaraju's way); one that isn't led back to is alone. No set leads to one that stands ahead of it. The graph says of each node, by its number, to which others it leads. No call is nested, for a way may be as long as there are nodes.
func Of(steps [][]int) [][]int {
	g := graph(steps)
	var knots [][]int
	back := g.turned()
	met := make([]bool, len(g))
	for _, node := range slices.Backward(g.leaving()) {
		if !met[node] {
			knots = append(knots, back.flood(node, met))
		}
	}
	return knots
}

// graph says of each node to which others it leads.
type graph [][]int

// turned has every step the other way round.
func (g graph) turned() graph {
	back := make(graph, len(g))
	for from, steps := range g {
		for _, to := range steps {
			back[to] = append(back[to], from)
		}
	}
	return back
}

// flood are the nodes that are come to from one, but for those that were met.
func (g graph) flood(from int, met []bool) []int {
	met[from] = true
	nodes := []int{from}
	for i := 0; i < len(nodes); i++ {
		for _, next := range g[nodes[i]] {
			if !met[next] {
				met[next] = true
				nodes = append(nodes, next)
			}
		}
	}
	return nodes
}

// leaving are all nodes in the order in which a walk leaves them: each behind all to which the walk goes on from it.
func (g graph) leaving() []int {
	w := walk{graph: g, met: make([]bool, len(g)), taken: make([]int, len(g))}
	for node := range g {
		w.enter(node)
		for len(w.way) > 0 {
			w.step()
		}
	}
	return w.left
}

// walk goes through a graph, depth first.
type walk struct {
	graph graph
	met   []bool
	taken []int // how many of each node's steps were taken
	way   []int // the nodes that were entered and not left
	left  []int
}

func (w *walk) enter(node int) {
	if !w.met[node] {
		w.met[node] = true
		w.way = append(w.way, node)
	}
}

// step goes on from the last node of the way, or leaves it.
func (w *walk) step() {
	last := len(w.way) - 1
	node := w.way[last]
	if w.taken[node] == len(w.graph[node]) {
		w.way = w.way[:last]
		w.left = append(w.left, node)
		return
	}
	w.taken[node]++
	w.enter(w.graph[node][w.taken[node]-1])
}
