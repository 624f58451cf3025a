package fields

import (
	"pergola/api"
	"pergola/rules"
	"pergola/scope"
)

// call is a field or a directive's use, with its arguments.
type call struct {
	args []api.Arg
	pos  api.Pos
	of   *callee // nil where it isn't known
}

func callsOf(s *scope.Sheet) []*call {
	c := newCatalog(rules.Types(s))
	var calls []*call
	for _, node := range s.Nodes() {
		if node.Kind == api.SelField {
			calls = append(calls, &call{node.Args, node.Pos, c.fieldOf(node)})
		}
	}
	for _, m := range s.Marks() {
		made := &call{args: m.Dir.Args, pos: m.Dir.Pos}
		if used := c.directiveOf(m); used != nil {
			made.of = used.callee
		}
		calls = append(calls, made)
	}
	return calls
}

func (c *call) At() api.Pos { return c.pos }

// argument is an argument of a call.
type argument struct {
	api.Arg
	to     *call
	number int // the call's
}

func argumentsOf(calls []*call) []argument {
	var args []argument
	for i, c := range calls {
		for _, arg := range c.args {
			args = append(args, argument{arg, c, i})
		}
	}
	return args
}

func (a argument) At() api.Pos { return a.Pos }

// argName is the name of arguments of one call.
type argName struct {
	call int
	name string
}

func (a argument) nameInCall() (argName, bool) {
	return argName{a.number, a.Name}, true
}
