package table_test

import (
	"iter"
	"testing"

	"pergola/api"
	"pergola/table"
)

// The chapter's examples.
func TestExamples(t *testing.T) {
	rows := chapter()
	tab := table.New(rows)
	if tab.Len() != 2 {
		t.Error("Len:", tab.Len())
	}
	checkFind(t, tab, rows[0].Call, value(whole(1)))
	checkFind(t, tab, rows[2].Call, api.Outcome{Fail: true})
	checkMissing(t, tab, call("/a", "Query", "a", "{ }"))
	want := []api.Entry{rows[0], {Call: rows[2].Call, Out: api.Outcome{Fail: true}}}
	if got := rowsOf(tab); speltRows(got) != speltRows(want) {
		t.Errorf("All yields %s", speltRows(got))
	}
}

// P25.1: of several rows with one key the first counts, be it a failure or not, and wherever the others stand.
func TestFirstRowCounts(t *testing.T) {
	a, b, c := call("/a", "Q", "a", "{}"), call("/b", "Q", "b", "{}"), call("/c", "Q", "c", "{}")
	rows := []api.Entry{
		{Call: b, Out: failure(whole(1))}, {Call: a, Out: value(api.Value{})}, {Call: b, Out: value(whole(2))}, {Call: a, Out: failure(whole(3))},
		{Call: c, Out: value(whole(4))}, {Call: a, Out: value(whole(5))}, {Call: c, Out: value(whole(4))}, {Call: c, Out: failure(api.Value{})}, {Call: b, Out: failure(api.Value{})},
	}
	tab := table.New(rows)
	if tab.Len() != 3 {
		t.Error("Len:", tab.Len())
	}
	checkFind(t, tab, a, value(api.Value{}))
	checkFind(t, tab, b, api.Outcome{Fail: true})
	checkFind(t, tab, c, value(whole(4)))
	want := []api.Entry{{Call: b, Out: api.Outcome{Fail: true}}, {Call: a}, {Call: c, Out: value(whole(4))}}
	if got := rowsOf(tab); speltRows(got) != speltRows(want) {
		t.Errorf("All yields %s", speltRows(got))
	}
}

// P25.1: the later rows with a key are as if they were not there.
func TestLaterRowsMakeNoDifference(t *testing.T) {
	rows := chapter()
	for _, more := range [][]api.Entry{nil, rows[:1], rows[1:2], rows[2:], rows, {rows[2], rows[1]}} {
		tab := table.New(append(chapter(), more...))
		if tab.Len() != 2 || speltRows(rowsOf(tab)) != speltRows(rowsOf(table.New(rows))) {
			t.Error(tab.Len(), speltRows(rowsOf(tab)))
		}
	}
}

// Two calls are one key just if their four texts are equal, byte by byte.
func TestEachTextCounts(t *testing.T) {
	calls := oddCalls(oddTexts())
	var rows []api.Entry
	for i, c := range calls {
		rows = append(rows, api.Entry{Call: c, Out: value(whole(int64(i)))})
	}
	tab := table.New(rows)
	if tab.Len() != len(calls) {
		t.Error("Len:", tab.Len(), "of", len(calls))
	}
	for i, c := range calls {
		checkFind(t, tab, c, value(whole(int64(i))))
	}
	if speltRows(rowsOf(tab)) != speltRows(rows) {
		t.Error("All yields other rows")
	}
	// Every other row, those with odd numbers ahead of the others.
	var some []api.Entry
	for i := range rows {
		if j := (2*i + 1) % len(rows); j%4 < 2 {
			some = append(some, rows[j])
		}
	}
	tab = table.New(some)
	for i, c := range calls {
		if i%4 < 2 {
			checkFind(t, tab, c, value(whole(int64(i))))
		} else {
			checkMissing(t, tab, c)
		}
	}
	if tab.Len() != len(some) || speltRows(rowsOf(tab)) != speltRows(some) {
		t.Error("All yields other rows:", tab.Len(), "of", len(some))
	}
}

// P25.2: a value comes back with every field as it is, of any Kind; of a failure no value does.
func TestAnyValue(t *testing.T) {
	c := call("/a", "Q", "a", "{}")
	for _, v := range anyValues() {
		tab := table.New([]api.Entry{{Call: c, Out: value(v)}})
		for range 2 {
			checkFind(t, tab, c, value(v))
			if got := rowsOf(tab); speltRows(got) != speltRows([]api.Entry{{Call: c, Out: value(v)}}) {
				t.Errorf("All yields %s; want %s", speltRows(got), spelt(v))
			}
		}
		tab = table.New([]api.Entry{{Call: c, Out: failure(v)}})
		checkFind(t, tab, c, api.Outcome{Fail: true})
		if got := rowsOf(tab); speltRows(got) != speltRows([]api.Entry{{Call: c, Out: api.Outcome{Fail: true}}}) {
			t.Errorf("All yields %s beside a failure", speltRows(got))
		}
		if tab.Len() != 1 {
			t.Error("Len:", tab.Len())
		}
		checkMissing(t, tab, call("/a", "Q", "", "a{}"))
	}
}

// P25.1: of no rows there is a table too, another one each time.
func TestNoRows(t *testing.T) {
	for _, none := range [][]api.Entry{nil, {}, chapter()[:0]} {
		tab := table.New(none)
		if tab == nil {
			t.Fatal("New answers nil")
		}
		checkEmpty(t, tab)
	}
}

func checkEmpty(t *testing.T, tab *table.Table) {
	t.Helper()
	if tab.Len() != 0 {
		t.Error("Len:", tab.Len())
	}
	checkMissing(t, tab, api.Call{})
	checkMissing(t, tab, chapter()[0].Call)
	all := tab.All()
	if all == nil {
		t.Fatal("All answers nil")
	}
	for range 2 {
		for c, o := range all {
			t.Error("All yields", speltCall(c), speltOutcome(o))
		}
	}
}

// P25.6, R1: a nil table has no rows; nor has one that New didn't make.
func TestNilTable(t *testing.T) {
	checkEmpty(t, nil)
	checkEmpty(t, new(table.Table))
}

// P25.3: what All answers may be ranged over again, broken off, and nested.
func TestAllIsRangedOverFreely(t *testing.T) {
	rows := []api.Entry{
		{Call: call("/c", "Q", "c", "{}"), Out: value(whole(1))}, {Call: call("/a", "Q", "a", "{}"), Out: api.Outcome{Fail: true}},
		{Call: call("/b", "Q", "b", "{}"), Out: value(list(whole(2)))}, {Call: call("", "", "", ""), Out: value(api.Value{})},
	}
	tab := table.New(rows)
	all := tab.All()
	for most := range len(rows) + 1 {
		if got := upTo(all, most); speltRows(got) != speltRows(rows[:most]) {
			t.Errorf("broken off behind %d: %s", most, speltRows(got))
		}
	}
	var got []api.Entry
	for c, o := range all {
		for inner := range all {
			if inner == c {
				break
			}
			got = append(got, upTo(all, 1)...)
		}
		got = append(got, api.Entry{Call: c, Out: o})
	}
	want := []api.Entry{rows[0], rows[0], rows[1], rows[0], rows[0], rows[2], rows[0], rows[0], rows[0], rows[3]}
	if speltRows(got) != speltRows(want) {
		t.Errorf("nested: %s", speltRows(got))
	}
}

// upTo are the first rows of a range that is broken off behind them.
func upTo(all iter.Seq2[api.Call, api.Outcome], most int) []api.Entry {
	var out []api.Entry
	if most == 0 {
		return out
	}
	for c, o := range all {
		out = append(out, api.Entry{Call: c, Out: o})
		if len(out) == most {
			break
		}
	}
	return out
}

// P25.3: ranges that go on side by side don't disturb one another, nor does a panic in one.
func TestRangesSideBySide(t *testing.T) {
	rows := chapter()
	all := table.New(rows).All()
	next, stop := iter.Pull2(all)
	other, stopOther := iter.Pull2(all)
	first, _, ok := next()
	second, _, okToo := other()
	if !ok || !okToo || first != rows[0].Call || second != rows[0].Call {
		t.Error(first, second)
	}
	stopOther()
	func() {
		defer func() { _ = recover() }()
		for range all {
			panic("given up")
		}
	}()
	first, out, ok := next()
	if !ok || first != rows[2].Call || !out.Fail {
		t.Error(first, out, ok)
	}
	if _, _, ok = next(); ok {
		t.Error("a range goes on behind its end")
	}
	stop()
}
