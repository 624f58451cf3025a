package overlap

import "pergola/api"

// builder makes a board. A fragment's own selections are laid out in the place of its spreads: once in any case, and then anew as long as there is room. Where there is none, a block is linked to the one in which they stand alone.
type builder struct {
	*board
	room    int      // how many nodes may yet be laid out anew
	isLaid  []bool   // of each definition whether it is laid out
	homes   []*block // of each definition the block in which it stands alone; nil, if there is none
	waiting []int    // the definitions whose homes are still empty
}

// newBoard lays a page out. All that is laid out anew has at most so many times as many nodes as the page.
func newBoard(p *page, r rule, copies int) *board {
	b := &builder{
		board:  &board{page: p, rule: r, classes: p.ofFields(r.class)},
		room:   copies * len(p.nodes),
		isLaid: make([]bool, len(p.tops)),
		homes:  make([]*block, len(p.tops)),
	}
	for def, n := range p.spreads {
		if n == 0 {
			b.home(def)
		}
	}
	b.fillHomes()
	for def := range p.tops { // what is still missing lies in rings that nothing leads into
		if !b.isLaid[def] {
			b.home(def)
			b.fillHomes()
		}
	}
	return b.board
}

// home is the block in which a definition stands alone.
func (b *builder) home(def int) *block {
	if b.homes[def] == nil {
		b.homes[def] = b.open()
		b.isLaid[def] = true
		b.waiting = append(b.waiting, def)
	}
	return b.homes[def]
}

func (b *builder) fillHomes() {
	for len(b.waiting) > 0 {
		def := b.waiting[0]
		b.waiting = b.waiting[1:]
		b.fill(b.homes[def], [][]int{b.tops[def]}, 0)
	}
}

// fill lays selections out in a block, and what stands in the braces of their fields in others.
func (b *builder) fill(to *block, lists [][]int, depth int) {
	to.groups = b.groupsOf(b.gather(to, lists, depth))
	for _, g := range to.groups {
		for _, c := range g.cells {
			b.enclose(c, depth+1)
		}
	}
}

// gather finds the fields among selections, each once, and links the block to the homes of the fragments that aren't laid out in it.
func (b *builder) gather(to *block, lists [][]int, depth int) []int {
	var fields []int
	met := map[int]struct{}{}
	for len(lists) > 0 {
		last := len(lists) - 1
		list := lists[last]
		lists = lists[:last]
		for _, i := range list {
			def := b.targets[i]
			_, isMet := met[def]
			switch {
			case b.nodes[i].Kind == api.SelField:
				fields = append(fields, i)
			case b.nodes[i].Kind == api.SelInline:
				lists = append(lists, b.nodes[i].Kids)
			case def < 0 || isMet || b.homes[def] == to:
			case b.takeRoom(def, depth):
				met[def] = struct{}{}
				lists = append(lists, b.tops[def])
			default:
				met[def] = struct{}{}
				to.beyond = append(to.beyond, b.home(def).number)
			}
		}
	}
	return fields
}

// takeRoom: is a definition laid out in this place of its spreads? The depth has a bound, for in a ring each place leads to a deeper one.
func (b *builder) takeRoom(def, depth int) bool {
	if !b.isLaid[def] {
		b.isLaid[def] = true
		return true
	}
	if depth > api.MostDepth || b.sizes[def] > b.room {
		return false
	}
	b.room -= b.sizes[def]
	return true
}

// enclose lays out what stands in the braces of a cell's fields.
func (b *builder) enclose(c *cell, depth int) {
	var lists [][]int
	for _, i := range c.nodes {
		if kids := b.nodes[i].Kids; len(kids) > 0 {
			lists = append(lists, kids)
		}
	}
	if len(lists) > 0 {
		c.inside = b.open()
		b.fill(c.inside, lists, depth)
	}
}
