package rules_test

import (
	"reflect"
	"testing"

	"pergola/api"
	"pergola/rules"
	"pergola/scope"
	"pergola/tree"
	"pergola/typesys"
)

// thing is a number at a place.
type thing struct {
	number, line int
}

func (t thing) At() api.Pos { return api.Pos{Line: t.line, Col: 1} }

func things(numbers ...int) []thing {
	var all []thing
	for i, number := range numbers {
		all = append(all, thing{number, i + 1})
	}
	return all
}

// fault is one of the kind ErrName at the first columns of lines.
func fault(lines ...int) api.Fault {
	f := api.Fault{Kind: api.ErrName}
	for _, line := range lines {
		f.Pos = append(f.Pos, api.Pos{Line: line, Col: 1})
	}
	return f
}

func check(t *testing.T, got []api.Fault, want ...api.Fault) {
	t.Helper()
	if !reflect.DeepEqual(tree.Faults(got), tree.Faults(want)) || len(got) != len(want) {
		t.Errorf("got %v, want %v", got, want)
	}
}

func TestEach(t *testing.T) {
	isOdd := func(t thing) bool { return t.number%2 == 1 }
	check(t, rules.Each(api.ErrName, things(1, 2, 3, 3), isOdd), fault(1), fault(3), fault(4))
	check(t, rules.Each(api.ErrName, things(2), isOdd))
	check(t, rules.Each(api.ErrName, things(), isOdd))
}

func TestShared(t *testing.T) {
	number := func(t thing) (int, bool) { return t.number, t.number > 0 }
	check(t, rules.Shared(api.ErrName, things(5, 7, 5, 6, 7, 5, 0, 0), number), fault(1, 3, 6), fault(2, 5))
	check(t, rules.Shared(api.ErrName, things(1, 2, 3, 0, 0), number))
	check(t, rules.Shared(api.ErrName, things(), number))
}

// Lists of places share no memory.
func TestSharedAreNew(t *testing.T) {
	all := things(1, 2, 1, 2, 1)
	number := func(t thing) (int, bool) { return t.number, true }
	faults := rules.Shared(api.ErrName, all, number)
	for i := range faults[0].Pos[:cap(faults[0].Pos)] {
		faults[0].Pos[:cap(faults[0].Pos)][i] = api.Pos{}
	}
	lines := map[int]bool{}
	for _, p := range faults[1].Pos {
		lines[p.Line] = true
	}
	if lines[0] || !reflect.DeepEqual(all, things(1, 2, 1, 2, 1)) {
		t.Error("changed")
	}
}

func TestTypes(t *testing.T) {
	own := typesys.Build([]api.SysDef{{Kind: api.SysScalar, Name: "S"}})
	if rules.Types(scope.Lay(own, api.Document{})) != own {
		t.Error("not the sheet's own")
	}
	for _, s := range []*scope.Sheet{nil, {}, scope.Lay(nil, api.Document{})} {
		if types := rules.Types(s); types == nil || !reflect.DeepEqual(types.Names(), typesys.Build(nil).Names()) {
			t.Error("not those of no definitions")
		}
	}
}
