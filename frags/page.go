package frags

import (
	"pergola/api"
	"pergola/knots"
	"pergola/scope"
)

// fragment is a fragment's definition.
type fragment struct {
	name string
	pos  api.Pos
}

func (f fragment) At() api.Pos { return f.pos }

func (f fragment) ownName() (string, bool) { return f.name, true }

// spread is a fragment's spread.
type spread struct {
	def       int // the definition in which it stands
	target    int // the fragment that it means
	hasTarget bool
	pos       api.Pos
}

func (s spread) At() api.Pos { return s.pos }

// condition is a type condition, told at what has it or goes into it.
type condition struct {
	on     string
	parent string // the type in whose scope that stands, or empty
	pos    api.Pos
}

func (c condition) At() api.Pos { return c.pos }

// page is what counts of a sheet here.
type page struct {
	defs      int // how many definitions there are
	fragments []fragment
	spreads   []spread
	names     map[string]struct{} // that spreads have
	written   []condition         // those of fragments and of inline ones
	entered   []condition         // those into which spreads and inline fragments go
}

func newPage(s *scope.Sheet) *page {
	defs := s.Document().Defs
	p := &page{defs: len(defs), names: map[string]struct{}{}}
	for _, def := range defs {
		if def.Kind == api.DefFragment {
			p.fragments = append(p.fragments, fragment{def.Name, def.Pos})
			p.written = append(p.written, condition{on: def.On, pos: def.Pos})
		}
	}
	for _, node := range s.Nodes() {
		switch {
		case node.Kind == api.SelSpread:
			target, ok := s.Fragment(node.Name)
			p.addSpread(node.Name, spread{node.Def, target, ok, node.Pos})
			if ok {
				p.entered = append(p.entered, condition{defs[target].On, node.Parent, node.Pos})
			}
		case node.Kind == api.SelInline && node.On != "":
			p.addInline(condition{node.On, node.Parent, node.Pos})
		}
	}
	return p
}

func (p *page) addSpread(name string, s spread) {
	p.names[name] = struct{}{}
	p.spreads = append(p.spreads, s)
}

func (p *page) addInline(c condition) {
	p.written = append(p.written, c)
	p.entered = append(p.entered, c)
}

// isSpread: does a spread have the fragment's name?
func (p *page) isSpread(f fragment) bool {
	_, ok := p.names[f.name]
	return ok
}

// rings numbers the definitions so that two have one number just if they are the same, or each reaches the other. (To ask the sheet what each of them reaches would take a walk for each.)
func (p *page) rings() []int {
	targets := make([][]int, p.defs)
	for _, s := range p.spreads {
		if s.hasTarget {
			targets[s.def] = append(targets[s.def], s.target)
		}
	}
	numbers := make([]int, p.defs)
	for number, knot := range knots.Of(targets) {
		for _, def := range knot {
			numbers[def] = number
		}
	}
	return numbers
}
