package table_test

import (
	"testing"

	"pergola/api"
	"pergola/table"
)

// The chapter's examples, and the edges of both lists.
func TestIdle(t *testing.T) {
	rows := chapter()
	a, b := rows[0].Call, rows[2].Call
	other := call("/a", "Query", "a", "{ }")
	checkIdle(t, rows, []api.Call{b}, 0, 1)
	checkIdle(t, rows, []api.Call{a, a}, 1, 2)
	checkIdle(t, rows, []api.Call{a}, 1, 2)
	checkIdle(t, rows, nil, 0, 1, 2)
	checkIdle(t, rows, []api.Call{}, 0, 1, 2)
	checkIdle(t, rows, []api.Call{other, {}}, 0, 1, 2)
	checkIdle(t, rows, []api.Call{b, other, a, b, {}, a, a}, 1)
	checkIdle(t, rows[2:], []api.Call{a, b})
	checkIdle(t, nil, []api.Call{a})
	checkIdle(t, []api.Entry{}, nil)
	checkIdle(t, make([]api.Entry, 3), []api.Call{{}, {}}, 1, 2)
	checkIdle(t, make([]api.Entry, 2), []api.Call{a}, 0, 1)
}

// P25.5: a row behind another with its key is idle, whatever the outcomes are and wherever the look-up stands.
func TestIdleOfLaterRows(t *testing.T) {
	a, b := chapter()[0].Call, chapter()[2].Call
	rows := []api.Entry{{Call: b}, {Call: a, Out: failure(whole(1))}, {Call: b, Out: failure(whole(1))}, {Call: a, Out: value(whole(1))}, {Call: a, Out: failure(whole(1))}, {Call: b}}
	checkIdle(t, rows, []api.Call{a, b}, 2, 3, 4, 5)
	checkIdle(t, rows, []api.Call{b, a}, 2, 3, 4, 5)
	checkIdle(t, rows, []api.Call{a, a, a}, 0, 2, 3, 4, 5)
	checkIdle(t, rows, []api.Call{b}, 1, 2, 3, 4, 5)
	checkIdle(t, rows, nil, 0, 1, 2, 3, 4, 5)
}

// P25.5: each of the four texts counts.
func TestIdleByEachText(t *testing.T) {
	calls := oddCalls([]string{"", "a", "aa", "\x00", "\xff"})
	var rows []api.Entry
	for _, c := range calls {
		rows = append(rows, api.Entry{Call: c})
	}
	for i, c := range calls {
		got := table.Idle(rows, []api.Call{c})
		if len(got) != len(rows)-1 {
			t.Fatalf("Idle(%s): %d", speltCall(c), len(got))
		}
		for j, number := range got {
			if j < i && number != j || j >= i && number != j+1 {
				t.Fatalf("Idle(%s) tells %d at %d", speltCall(c), number, j)
			}
		}
	}
}
