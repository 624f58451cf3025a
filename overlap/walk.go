package overlap

import "slices"

// work is pairs of blocks, each the smaller number first, and each gone to once.
type work struct {
	// known has a bit for each pair, for there may be very many: its keys are a block and a row of 64 others.
	known   map[[2]int]uint64
	waiting [][2]int
}

func (w *work) add(one, other int) {
	pair := ordered(one, other)
	key, bit := [2]int{pair[0], pair[1] / 64}, uint64(1)<<(pair[1]%64)
	if row := w.known[key]; row&bit == 0 {
		w.known[key] = row | bit
		w.waiting = append(w.waiting, pair)
	}
}

func (w *work) take() [2]int {
	last := len(w.waiting) - 1
	pair := w.waiting[last]
	w.waiting = w.waiting[:last]
	return pair
}

func ordered(a, b int) [2]int {
	return [2]int{min(a, b), max(a, b)}
}

// walk goes to all pairs of groups of one key whose fields are pairs of each other, once to each; a group with itself is one, too.
func (b *board) walk(visit func(g, h *group)) {
	w := &work{known: map[[2]int]uint64{}}
	for i := range b.blocks {
		w.add(i, i)
	}
	for len(w.waiting) > 0 {
		pair := w.take()
		one, other := b.blocks[pair[0]], b.blocks[pair[1]]
		for _, next := range one.beyond {
			w.add(next, other.number)
		}
		for _, next := range other.beyond {
			w.add(one.number, next)
		}
		match(one, other, func(g, h *group) {
			visit(g, h)
			meet(g, h, w.addInside)
		})
	}
}

// addInside: what stands in the braces of fields that may meet is paired, too.
func (w *work) addInside(c, d *cell) {
	if c.inside != nil && d.inside != nil {
		w.add(c.inside.number, d.inside.number)
	}
}

// match goes to the groups of two blocks that have one key.
func match(one, other *block, visit func(g, h *group)) {
	if len(one.groups) > len(other.groups) {
		one, other = other, one
	}
	for _, g := range one.groups {
		if h, ok := other.with(g.key); ok {
			visit(g, h)
		}
	}
}

// meet goes to the cells of two groups whose fields may meet; of a group and itself to some twice.
func meet(g, h *group, visit func(c, d *cell)) {
	for _, c := range g.cells {
		if c.class == "" {
			for _, d := range h.cells {
				visit(c, d)
			}
			continue
		}
		for _, class := range []string{c.class, ""} {
			if d, ok := h.of(class); ok {
				visit(c, d)
			}
		}
	}
}

// pairs are all pairs of fields, each once, though a field may stand in several blocks.
func (b *board) pairs() [][2]int {
	known := map[[2]int]struct{}{}
	var all [][2]int
	add := func(x, y int) {
		pair := ordered(x, y)
		if _, ok := known[pair]; !ok {
			known[pair] = struct{}{}
			all = append(all, pair)
		}
	}
	b.walk(func(g, h *group) {
		own, others := g.nodes(), h.nodes()
		for _, x := range own {
			for _, y := range others {
				if x < y || g != h && x > y {
					add(x, y)
				}
			}
		}
	})
	slices.SortFunc(all, func(p, q [2]int) int { return slices.Compare(p[:], q[:]) })
	return all
}

func (g *group) nodes() []int {
	var nodes []int
	for _, c := range g.cells {
		nodes = append(nodes, c.nodes...)
	}
	return nodes
}
