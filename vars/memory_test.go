package vars_test

import (
	"reflect"
	"slices"
	"sync"
	"testing"

	"pergola/api"
	"pergola/scope"
	"pergola/vars"
)

// seen is all that can be seen of a sheet.
func seen(s *scope.Sheet) []any {
	out := []any{s.Document(), s.Nodes(), s.Uses(), s.Spots(), s.Marks(), s.Types().Names(), s.Types().Schema()}
	for i := range s.Document().Defs {
		out = append(out, s.Tops(i), s.Reach(i))
	}
	for _, name := range s.Types().Names() {
		def, _ := s.Types().Type(name)
		out = append(out, def, s.Types().Possible(name))
	}
	return out
}

func overwritePlaces(f api.Fault) {
	places := f.Pos[:cap(f.Pos)]
	for i := range places {
		places[i] = api.Pos{Line: 77, Col: 77}
	}
}

// overwrite writes over all lists of an answer, their spare room too.
func overwrite(faults []api.Fault) {
	room := faults[:cap(faults)]
	for i, f := range room {
		overwritePlaces(f)
		room[i] = api.Fault{Kind: api.ErrBig}
	}
}

// R3: the sheet is left as it is, and nothing that is done to an answer is seen in another.
func TestAnswersAreNew(t *testing.T) {
	s := scope.Lay(sound(t, zoo), parse(t, everything))
	before := seen(s)
	for _, r := range allCalls() {
		first, second := r.call(s), r.call(s)
		want := told(first)
		overwrite(first)
		if got := told(second); got != want {
			t.Errorf("%s, an earlier answer: got %s, want %s", r.name, got, want)
		}
		if got := told(r.call(s)); got != want {
			t.Errorf("%s, a later answer: got %s, want %s", r.name, got, want)
		}
	}
	if !reflect.DeepEqual(seen(s), before) {
		t.Error("the sheet was changed")
	}
}

// R3: no two lists of an answer share memory, spare room too.
func TestListsShareNone(t *testing.T) {
	for _, r := range allCalls() {
		faults := r.call(scope.Lay(sound(t, zoo), parse(t, everything)))
		for i := range faults {
			want := told(slices.Concat(faults[:i], faults[i+1:]))
			overwritePlaces(faults[i])
			if got := told(slices.Concat(faults[:i], faults[i+1:])); got != want {
				t.Fatal("two lists share memory:", r.name)
			}
		}
		if len(faults) < 2 {
			t.Error("too few faults:", r.name, len(faults))
		}
	}
}

// R2: several that ask one sheet at one time are answered alike.
func TestAskedAtOneTime(t *testing.T) {
	s := scope.Lay(sound(t, zoo), parse(t, everything))
	want := told(vars.Check(s))
	var wait sync.WaitGroup
	wrong := make([]bool, 16)
	for i := range wrong {
		wait.Go(func() {
			for range 200 {
				got := vars.Check(s)
				wrong[i] = wrong[i] || told(got) != want
				overwrite(got)
			}
		})
	}
	wait.Wait()
	if slices.Contains(wrong, true) {
		t.Error("answers were unlike")
	}
}
