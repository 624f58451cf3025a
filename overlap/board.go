package overlap

import (
	"cmp"
	"slices"
	"strings"
)

// board has the field nodes of a page in blocks, each of them in one block at least.
//
// There may be far more pairs of nodes than nodes, so those are put together that are paired with the same others. All fields of a block are pairs of each other, if they have one key; those of them that have one class, too, may meet, and meet the same others. So all that stands in the braces of these is paired again: it makes one block.
type board struct {
	*page
	rule    rule
	classes []string // of each field
	blocks  []*block
}

// block is fields that all stand together.
type block struct {
	number int
	groups []*group // sorted by their keys
	beyond []int    // the blocks of fragments whose fields stand together with these
}

// group is the fields of a block that have one key.
type group struct {
	key   string
	cells []*cell // sorted by their classes
}

// cell is the fields of a group that have one class.
type cell struct {
	class  string
	nodes  []int
	inside *block // what stands in their braces; nil, if nothing does
	own    sample // of these fields
	rivals sample // of all fields that these must keep the rule with
}

// open makes a block.
func (b *board) open() *block {
	made := &block{number: len(b.blocks)}
	b.blocks = append(b.blocks, made)
	return made
}

// cells are all cells.
func (b *board) cells() []*cell {
	var all []*cell
	for _, one := range b.blocks {
		for _, g := range one.groups {
			all = append(all, g.cells...)
		}
	}
	return all
}

// groupsOf sorts fields into groups and these into cells.
func (b *board) groupsOf(fields []int) []*group {
	slices.SortFunc(fields, func(i, k int) int {
		return cmp.Or(strings.Compare(b.nodes[i].Key, b.nodes[k].Key), strings.Compare(b.classes[i], b.classes[k]))
	})
	var groups []*group
	for _, alike := range runs(fields, func(i int) string { return b.nodes[i].Key }) {
		made := &group{key: b.nodes[alike[0]].Key}
		for _, nodes := range runs(alike, func(i int) string { return b.classes[i] }) {
			made.cells = append(made.cells, &cell{class: b.classes[nodes[0]], nodes: nodes})
		}
		groups = append(groups, made)
	}
	return groups
}

// runs cuts a list into pieces of neighbours with one name.
func runs(list []int, name func(int) string) [][]int {
	var pieces [][]int
	from := 0
	for i := range list {
		if i+1 == len(list) || name(list[i]) != name(list[i+1]) {
			pieces = append(pieces, list[from:i+1])
			from = i + 1
		}
	}
	return pieces
}

// with is the group of a key, if the block has one.
func (b *block) with(key string) (*group, bool) {
	i, ok := slices.BinarySearchFunc(b.groups, key, func(g *group, key string) int { return strings.Compare(g.key, key) })
	if !ok {
		return nil, false
	}
	return b.groups[i], true
}

// of is the cell of a class, if the group has one.
func (g *group) of(class string) (*cell, bool) {
	i, ok := slices.BinarySearchFunc(g.cells, class, func(c *cell, class string) int { return strings.Compare(c.class, class) })
	if !ok {
		return nil, false
	}
	return g.cells[i], true
}
