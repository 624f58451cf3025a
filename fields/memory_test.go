package fields_test

import (
	"cmp"
	"reflect"
	"runtime"
	"slices"
	"sync"
	"testing"

	"pergola/api"
	"pergola/scope"
)

// seen is all that can be seen of a sheet.
func seen(s *scope.Sheet) []any {
	out := []any{s.Document(), s.Nodes(), s.Uses(), s.Spots(), s.Marks(), s.Types().Names(), s.Types().Schema()}
	for i := range s.Document().Defs {
		out = append(out, s.Tops(i), s.Reach(i))
	}
	for _, name := range s.Types().Names() {
		def, _ := s.Types().Type(name)
		out = append(out, def)
	}
	for _, name := range s.Types().Directives() {
		def, _ := s.Types().Directive(name)
		out = append(out, def)
	}
	return out
}

// answers are those of all calls.
func answers(s *scope.Sheet) [][]api.Fault {
	var out [][]api.Fault
	for _, c := range allCalls() {
		out = append(out, c.of(s))
	}
	return out
}

func texts(answered [][]api.Fault) []string {
	var out []string
	for _, faults := range answered {
		out = append(out, told(faults))
	}
	return out
}

// overwrite writes over all lists of answers, their spare room too.
func overwrite(answered [][]api.Fault) {
	for _, faults := range answered {
		for i, f := range faults[:cap(faults)] {
			for k := range f.Pos[:cap(f.Pos)] {
				f.Pos[:cap(f.Pos)][k] = api.Pos{Line: 77, Col: 77}
			}
			faults[:cap(faults)][i] = api.Fault{Kind: api.ErrBig}
		}
	}
}

// R3: the sheet is left as it is, and nothing that is done to an answer is seen in another.
func TestAnswersAreNew(t *testing.T) {
	s := scope.Lay(sound(t, rootless()), parse(t, everything))
	before := seen(s)
	first, second := answers(s), answers(s)
	want := texts(first)
	overwrite(first)
	if got := texts(second); !slices.Equal(got, want) {
		t.Errorf("an earlier answer: got %v, want %v", got, want)
	}
	if got := texts(answers(s)); !slices.Equal(got, want) {
		t.Errorf("a later answer: got %v, want %v", got, want)
	}
	if !reflect.DeepEqual(seen(s), before) {
		t.Error("the sheet was changed")
	}
}

// R3: no two lists share memory, of one answer or of two.
func TestListsShareNone(t *testing.T) {
	type room struct{ from, to uintptr }
	s := scope.Lay(sound(t, rootless()), parse(t, everything))
	all := slices.Concat(answers(s), answers(s))
	var rooms []room
	add := func(list reflect.Value) {
		if size := uintptr(list.Cap()) * list.Type().Elem().Size(); size > 0 {
			rooms = append(rooms, room{list.Pointer(), list.Pointer() + size})
		}
	}
	for _, faults := range all {
		add(reflect.ValueOf(faults))
		for _, f := range faults {
			add(reflect.ValueOf(f.Pos))
			add(reflect.ValueOf(f.Path))
		}
	}
	slices.SortFunc(rooms, func(a, b room) int { return cmp.Compare(a.from, b.from) })
	for i := 1; i < len(rooms); i++ {
		if rooms[i-1].to > rooms[i].from {
			t.Fatal("two lists share memory")
		}
	}
	if len(rooms) < 60 {
		t.Error("lists:", len(rooms))
	}
	runtime.KeepAlive(all)
}

// R2: several that ask one sheet at one time are answered alike.
func TestAskedAtOneTime(t *testing.T) {
	s := scope.Lay(sound(t, rootless()), parse(t, everything))
	want := texts(answers(s))
	var wait sync.WaitGroup
	wrong := make([]bool, 16)
	for i := range wrong {
		wait.Go(func() {
			for range 50 {
				got := answers(s)
				wrong[i] = wrong[i] || !slices.Equal(texts(got), want)
				overwrite(got)
			}
		})
	}
	wait.Wait()
	if slices.Contains(wrong, true) {
		t.Error("answers were unlike")
	}
}
