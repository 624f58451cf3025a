package overlap_test

import (
	"reflect"
	"slices"
	"sync"
	"testing"

	"pergola/api"
	"pergola/overlap"
	"pergola/scope"
)

// crowd is a document with many pairs, shapes and faults.
const crowd = "query A {x k: x k: e ...F self {x n {...G} ...F} u {... on O {k: x self {x}} ... on V {k: x n} ... on P {self {x e}}}} query B {...G f(j: {a: 1 b: {}}) {x} f(j: {b: {} a: 1}) {x: e} n {...G}} fragment F on Root {x: y self {x: e ...F} ...G} fragment G on N {n(k: 1) {n} n {n(k: 2)}}"

// answered is what all calls answer.
type answered struct {
	pairs, shapes [][2]int
	faults        []api.Fault
}

func answers(s *scope.Sheet) answered {
	return answered{overlap.Pairs(s), overlap.Shapes(s), overlap.Check(s)}
}

func (a answered) isLike(b answered) bool {
	return slices.Equal(a.pairs, b.pairs) && slices.Equal(a.shapes, b.shapes) && told(a.faults) == told(b.faults)
}

// copied is a copy that shares no memory.
func (a answered) copied() answered {
	out := answered{slices.Clone(a.pairs), slices.Clone(a.shapes), slices.Clone(a.faults)}
	for i, f := range out.faults {
		out.faults[i].Pos = slices.Clone(f.Pos)
	}
	return out
}

// overwrite writes over all lists, their spare room too.
func (a answered) overwrite() {
	for _, list := range [][][2]int{a.pairs, a.shapes} {
		for i := range list[:cap(list)] {
			list[:cap(list)][i] = [2]int{77, 77}
		}
	}
	for i, f := range a.faults[:cap(a.faults)] {
		for k := range f.Pos[:cap(f.Pos)] {
			f.Pos[:cap(f.Pos)][k] = api.Pos{Line: 77, Col: 77}
		}
		a.faults[:cap(a.faults)][i] = api.Fault{Kind: api.ErrBig}
	}
}

// seen is all that can be seen of a sheet.
func seen(s *scope.Sheet) []any {
	out := []any{s.Document(), s.Nodes(), s.Uses(), s.Spots(), s.Marks(), s.Types().Names(), s.Types().Schema()}
	for i := range s.Document().Defs {
		out = append(out, s.Tops(i), s.Reach(i))
	}
	for _, name := range s.Types().Names() {
		def, _ := s.Types().Type(name)
		out = append(out, def)
	}
	return out
}

// R3: the sheet is left as it is, and nothing that is done to an answer is seen in another.
func TestAnswersAreNew(t *testing.T) {
	s := scope.Lay(sound(t, zoo), parse(t, crowd))
	hold(t, crowd, s.Types(), s.Document())
	before := seen(s)
	first, second := answers(s), answers(s)
	want := first.copied()
	if len(want.pairs) < 20 || len(want.shapes) <= len(want.pairs) || len(want.faults) < 5 {
		t.Error("too little is answered:", want)
	}
	first.overwrite()
	if !second.isLike(want) || !answers(s).isLike(want) {
		t.Error("an answer was changed with another")
	}
	if !reflect.DeepEqual(seen(s), before) {
		t.Error("the sheet was changed")
	}
}

// R3: no two lists of the faults share memory, spare room too.
func TestListsShareNone(t *testing.T) {
	faults := overlap.Check(scope.Lay(sound(t, zoo), parse(t, crowd)))
	for i := range faults {
		want := told(slices.Concat(faults[:i], faults[i+1:]))
		pos := faults[i].Pos[:cap(faults[i].Pos)]
		for k := range pos {
			pos[k] = api.Pos{Line: 77, Col: 77}
		}
		if got := told(slices.Concat(faults[:i], faults[i+1:])); got != want {
			t.Fatal("two lists share memory")
		}
	}
}

// R2: several that ask one sheet at one time are answered alike.
func TestAskedAtOneTime(t *testing.T) {
	s := scope.Lay(sound(t, zoo), parse(t, crowd))
	want := answers(s)
	var wait sync.WaitGroup
	wrong := make([]bool, 16)
	for i := range wrong {
		wait.Go(func() {
			for range 50 {
				got := answers(s)
				wrong[i] = wrong[i] || !got.isLike(want)
				got.overwrite()
			}
		})
	}
	wait.Wait()
	if slices.Contains(wrong, true) {
		t.Error("answers were unlike")
	}
}
