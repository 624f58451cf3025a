package table_test

import (
	"testing"

	"pergola/api"
	"pergola/table"
)

// model keeps nothing but the rows, and goes through them from the front at each question.
type model []api.Entry

// first is the number of the row that counts for a key.
func (m model) first(c api.Call) (int, bool) {
	for i, entry := range m {
		k := entry.Call
		if k.Args == c.Args && k.Field == c.Field && k.Parent == c.Parent && k.Path == c.Path {
			return i, true
		}
	}
	return 0, false
}

func (m model) counts(i int) bool {
	first, _ := m.first(m[i].Call)
	return first == i
}

func (m model) find(c api.Call) (api.Outcome, bool) {
	i, ok := m.first(c)
	if !ok {
		return api.Outcome{}, false
	}
	if m[i].Out.Fail {
		return api.Outcome{Fail: true}, true
	}
	return m[i].Out, true
}

func (m model) all() []api.Entry {
	var out []api.Entry
	for i, entry := range m {
		if m.counts(i) {
			found, _ := m.find(entry.Call)
			out = append(out, api.Entry{Call: entry.Call, Out: found})
		}
	}
	return out
}

func (m model) idle(trace []api.Call) []int {
	var out []int
	for i, entry := range m {
		isMet := false
		for _, c := range trace {
			isMet = isMet || speltCall(c) == speltCall(entry.Call)
		}
		if !isMet || !m.counts(i) {
			out = append(out, i)
		}
	}
	return out
}

// check holds all that can be asked of a table of these rows against the model.
func (m model) check(t testing.TB, keys []api.Call) {
	t.Helper()
	tab, want := table.New(m), m.all()
	if tab.Len() != len(want) {
		t.Errorf("Len = %d, want %d", tab.Len(), len(want))
	}
	if got := rowsOf(tab); speltRows(got) != speltRows(want) {
		t.Errorf("All yields %.500s; want %.500s", speltRows(got), speltRows(want))
	}
	for _, c := range keys {
		if out, ok := m.find(c); ok {
			checkFind(t, tab, c, out)
		} else {
			checkMissing(t, tab, c)
		}
	}
}
