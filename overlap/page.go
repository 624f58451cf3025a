package overlap

import (
	"pergola/api"
	"pergola/scope"
)

// page is what counts of a sheet here.
type page struct {
	nodes   []api.Node
	tops    [][]int // of each definition its own selections
	sizes   []int   // of each definition how many nodes it has
	spreads []int   // of each definition how often it is spread
	targets []int   // of each node the definition that it spreads, -1 if it spreads none
}

func newPage(s *scope.Sheet) *page {
	defs := len(s.Document().Defs)
	p := &page{nodes: s.Nodes(), sizes: make([]int, defs), spreads: make([]int, defs)}
	for def := range defs {
		p.tops = append(p.tops, s.Tops(def))
	}
	for _, node := range p.nodes {
		p.sizes[node.Def]++
		p.targets = append(p.targets, targetOf(s, node))
	}
	for _, def := range p.targets {
		if def >= 0 {
			p.spreads[def]++
		}
	}
	return p
}

func targetOf(s *scope.Sheet, node api.Node) int {
	if node.Kind != api.SelSpread {
		return -1
	}
	def, ok := s.Fragment(node.Name)
	if !ok {
		return -1
	}
	return def
}

// ofFields is what a function answers for each field.
func (p *page) ofFields(ask func(api.Node) string) []string {
	texts := make([]string, len(p.nodes))
	for i, node := range p.nodes {
		if node.Kind == api.SelField {
			texts[i] = ask(node)
		}
	}
	return texts
}
