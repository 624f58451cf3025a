package shape

import "pergola/api"

func ringRules(s *system) []rule {
	return []rule{
		func(tell teller) {
			for _, node := range s.needs().onRings() {
				tell(api.ErrInputRing, s.types[node].Pos)
			}
		},
		func(tell teller) {
			for _, node := range s.uses().onRings() {
				if number := node - len(s.types); number >= 0 {
					tell(api.ErrDirRing, s.directives[number].Pos)
				}
			}
		},
	}
}

// needs leads from an input type to those without which it has no value. Its nodes are the own types.
func (s *system) needs() graph {
	g := make(graph, len(s.types))
	for node, d := range s.types {
		for _, input := range d.Inputs {
			if number, ok := s.numbers[input.Type.Name]; ok && input.Type.Wrap == "!" {
				g[node] = append(g[node], number)
			}
		}
	}
	return g
}

// uses leads from a type or a directive to what its definition uses. Its nodes are the own types, and behind them the own directives.
func (s *system) uses() graph {
	g := make(graph, len(s.types)+len(s.directives))
	directives := map[string]int{}
	for i, d := range s.directives {
		directives[d.Name] = len(s.types) + i
	}
	for node, d := range s.types {
		g.use(node, d.Dirs, directives)
		for _, value := range d.Values {
			g.use(node, value.Dirs, directives)
		}
		g.useInputs(node, d.Inputs, s.numbers, directives)
	}
	for _, d := range s.directives {
		g.useInputs(directives[d.Name], d.Inputs, s.numbers, directives)
	}
	return g
}

func (g graph) useInputs(node int, inputs []api.InputDef, types, directives map[string]int) {
	for _, input := range inputs {
		g.use(node, input.Dirs, directives)
		if number, ok := types[input.Type.Name]; ok {
			g[node] = append(g[node], number)
		}
	}
}

func (g graph) use(node int, dirs []api.Dir, directives map[string]int) {
	for _, dir := range dirs {
		if number, ok := directives[dir.Name]; ok {
			g[node] = append(g[node], number)
		}
	}
}
