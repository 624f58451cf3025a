package fields

import (
	"pergola/api"
	"pergola/rules"
	"pergola/scope"
)

// mark is a directive's use at its place.
type mark struct {
	api.Mark
	of *directive // nil where it isn't known
}

func marksOf(s *scope.Sheet) []mark {
	c := newCatalog(rules.Types(s))
	var marks []mark
	for _, m := range s.Marks() {
		marks = append(marks, mark{m, c.directiveOf(m)})
	}
	return marks
}

func (m mark) At() api.Pos { return m.Dir.Pos }

// dirName is the name of directives at one owner. Its number alone isn't enough, for the numbers below 0 begin anew in each definition.
type dirName struct {
	def, owner int
	name       string
}

// nameAtOwner is the name of a mark that may not be repeated.
func (m mark) nameAtOwner() (dirName, bool) {
	return dirName{m.Def, m.Owner, m.Dir.Name}, m.of != nil && !m.of.isRepeatable
}
