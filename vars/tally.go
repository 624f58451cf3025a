package vars

import (
	"iter"
	"math/bits"

	"pergola/api"
	"pergola/rules"
	"pergola/scope"
)

// tally is which uses are each operation's, and what is wrong with them.
type tally struct {
	*page
	uses    *uses
	reach   *reach
	counted map[naming]int // of each name in an operation the number of the variable that counts
	isUsed  []bool         // of each variable that counts
	lacked  [][]operation  // of each use the operations that have no variable of its name
	refused [][]operation  // of each use the operations whose variable may not stand there
}

func newTally(s *scope.Sheet) *tally {
	p, u := newPage(s), newUses(s)
	t := &tally{
		page:    p,
		uses:    u,
		reach:   newReach(s, p.defs),
		counted: p.firsts(),
		isUsed:  make([]bool, len(p.variables)),
		lacked:  make([][]operation, len(u.all)),
		refused: make([][]operation, len(u.all)),
	}
	for now := range t.reach.rounds(u.sites) {
		t.count(now)
	}
	return t
}

func (t *tally) count(now round) {
	for _, op := range t.operations {
		for rest := now.masks[op.def]; rest != 0; rest &= rest - 1 {
			t.meet(op, now.first+bits.TrailingZeros64(rest))
		}
	}
}

// meet holds one of an operation's uses against its variable of that name.
func (t *tally) meet(op operation, number int) {
	u := t.uses.all[number]
	counted, ok := t.counted[naming{op.def, u.name}]
	if !ok {
		t.lacked[number] = append(t.lacked[number], op)
		return
	}
	t.isUsed[counted] = true
	v := t.variables[counted]
	if u.isTyped && !v.isOpen && !Allowed(v.typ, v.hasDefault, u.typ, u.hasDefault) {
		t.refused[number] = append(t.refused[number], op)
	}
}

func (t *tally) unused() []api.Fault {
	return rules.Each(api.ErrVarUnused, t.variables, func(v variable) bool { return !t.isUsed[t.counted[v.naming]] })
}

func (t *tally) undefined() []api.Fault {
	var all []api.Fault
	for op, at := range t.meetings(t.lacked) {
		for _, pos := range at.places {
			all = append(all, api.Fault{Kind: api.ErrVarNone, Pos: []api.Pos{pos, op.pos}})
		}
	}
	return all
}

func (t *tally) misplaced() []api.Fault {
	var all []api.Fault
	for op, at := range t.meetings(t.refused) {
		v := t.variables[t.counted[naming{op.def, t.uses.all[at.use].name}]]
		for _, pos := range at.places {
			all = append(all, api.Fault{Kind: api.ErrVarPlace, Pos: []api.Pos{v.pos, pos}})
		}
	}
	return all
}

// meetings goes through the sites of uses that are wrong in an operation, as far as the operation comes to them.
func (t *tally) meetings(wrong [][]operation) iter.Seq2[operation, site] {
	return func(yield func(operation, site) bool) {
		for now := range t.reach.rounds(t.uses.sitesOf(wrong)) {
			for bit, sites := range now.things {
				at := sites[0]
				for _, op := range wrong[at.use] {
					if now.masks[op.def]>>bit&1 == 1 && !yield(op, at) {
						return
					}
				}
			}
		}
	}
}
