package vars

import (
	"slices"

	"pergola/api"
	"pergola/scope"
)

// use is what counts of a variable's use, but where it stands: uses that are the same are asked about once.
type use struct {
	name       string
	typ        api.TypeRef
	isTyped    bool
	hasDefault bool
}

// site is where a definition has a use.
type site struct {
	use    int // its number
	def    int
	places []api.Pos
}

// uses are a document's uses, each once, and where they stand.
type uses struct {
	all   []use
	sites [][]site // of each use one for each definition that has it
}

func newUses(s *scope.Sheet) *uses {
	u := &uses{}
	numbers := map[use]int{}
	for _, x := range s.Uses() {
		key := use{x.Name, x.Type, x.Typed, x.HasDefault}
		number, ok := numbers[key]
		if !ok {
			number = len(u.all)
			numbers[key] = number
			u.all = append(u.all, key)
			u.sites = append(u.sites, nil)
		}
		u.add(number, x.Def, x.Pos)
	}
	return u
}

// add lays a place down. Those of one definition come one behind the other, for the sheet has the definitions in their order.
func (u *uses) add(number, def int, pos api.Pos) {
	sites := u.sites[number]
	if len(sites) == 0 || sites[len(sites)-1].def != def {
		sites = append(sites, site{use: number, def: def})
	}
	last := &sites[len(sites)-1]
	last.places = append(last.places, pos)
	u.sites[number] = sites
}

// sitesOf are the sites, each in a list of its own, of the uses that are wrong in an operation.
func (u *uses) sitesOf(wrong [][]operation) [][]site {
	var all [][]site
	for number, ops := range wrong {
		if len(ops) > 0 {
			all = slices.AppendSeq(all, slices.Chunk(u.sites[number], 1))
		}
	}
	return all
}
