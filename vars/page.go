package vars

import (
	"pergola/api"
	"pergola/rules"
	"pergola/scope"
)

// operation is an operation's definition.
type operation struct {
	def int // its number
	pos api.Pos
}

// naming is a name in a definition.
type naming struct {
	def  int
	name string
}

// variable is a variable's definition.
type variable struct {
	naming
	typ        api.TypeRef
	isOpen     bool
	hasDefault bool // other than null
	pos        api.Pos
}

func (v variable) At() api.Pos { return v.pos }

func (v variable) ownName() (naming, bool) { return v.naming, true }

// page is a document's operations and their variables.
type page struct {
	defs       int // how many definitions there are
	operations []operation
	variables  []variable
}

func newPage(s *scope.Sheet) *page {
	types := rules.Types(s)
	defs := s.Document().Defs
	p := &page{defs: len(defs)}
	for number, def := range defs {
		if def.Kind == api.DefFragment {
			continue
		}
		p.operations = append(p.operations, operation{number, def.Pos})
		for _, v := range def.Vars {
			p.variables = append(p.variables, variable{
				naming:     naming{number, v.Name},
				typ:        v.Type,
				isOpen:     !types.Input(v.Type.Name),
				hasDefault: v.HasDefault && v.Default.Kind != api.LitNull,
				pos:        v.Pos,
			})
		}
	}
	return p
}

func (p *page) twice() []api.Fault {
	return rules.Shared(api.ErrVarTwice, p.variables, variable.ownName)
}

func (p *page) open() []api.Fault {
	return rules.Each(api.ErrVarType, p.variables, func(v variable) bool { return v.isOpen })
}

// firsts are the numbers of the variables that count: of several of one name in an operation the first.
func (p *page) firsts() map[naming]int {
	numbers := map[naming]int{}
	for i, v := range p.variables {
		if _, ok := numbers[v.naming]; !ok {
			numbers[v.naming] = i
		}
	}
	return numbers
}
