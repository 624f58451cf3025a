package table_test

import (
	"runtime"
	"slices"
	"sync"
	"testing"
	"unsafe"

	"pergola/api"
	"pergola/table"
)

// roomy is a copy of a value whose lists have room to spare, and something in it, at every depth.
func roomy(v api.Value) api.Value {
	items := make([]api.Value, len(v.Items), len(v.Items)+2)
	for i, x := range v.Items {
		items[i] = roomy(x)
	}
	fields := make([]api.Member, len(v.Fields), len(v.Fields)+2)
	for i, m := range v.Fields {
		fields[i] = member(m.Name, roomy(m.Value))
	}
	v.Items = append(items, text("spare"), text("spare"))[:len(items)]
	v.Fields = append(fields, member("spare", text("spare")), member("spare", text("spare")))[:len(fields)]
	return v
}

// full is a value with the spare room of its lists as elements, at every depth.
func full(v api.Value) api.Value {
	v.Items, v.Fields = slices.Clone(v.Items[:cap(v.Items)]), slices.Clone(v.Fields[:cap(v.Fields)])
	for i, x := range v.Items {
		v.Items[i] = full(x)
	}
	for i, m := range v.Fields {
		v.Fields[i] = member(m.Name, full(m.Value))
	}
	return v
}

// overwrite writes over all memory of a value, spare room too.
func overwrite(v api.Value) {
	for _, x := range v.Items {
		overwrite(x)
	}
	for _, m := range v.Fields {
		overwrite(m.Value)
	}
	for i := range v.Items[:cap(v.Items)] {
		v.Items[:cap(v.Items)][i] = text("overwritten")
	}
	for i := range v.Fields[:cap(v.Fields)] {
		v.Fields[:cap(v.Fields)][i] = member("overwritten", text("overwritten"))
	}
}

// roomyRows are rows of all sorts of values, some of them behind others with their key, with room to spare.
func roomyRows() []api.Entry {
	var rows []api.Entry
	for i, v := range anyValues() {
		key := call("/a", "Q", "a", string(rune('a'+i)))
		rows = append(rows, api.Entry{Call: key, Out: api.Outcome{Fail: i%5 == 0, Value: roomy(v)}})
		if i%7 == 0 {
			rows = append(rows, api.Entry{Call: key, Out: api.Outcome{Fail: i%2 == 0, Value: roomy(v)}})
		}
	}
	return append(rows, api.Entry{Call: call("spare", "", "", "")})[:len(rows)]
}

// fullRows are rows with all spare room, spelt out.
func fullRows(rows []api.Entry) string {
	all := slices.Clone(rows[:cap(rows)])
	for i := range all {
		all[i].Out.Value = full(all[i].Out.Value)
	}
	return speltRows(all)
}

func overwriteRows(rows []api.Entry) {
	for _, entry := range rows {
		overwrite(entry.Out.Value)
	}
	for i := range rows[:cap(rows)] {
		rows[:cap(rows)][i] = api.Entry{Call: call("over", "wr", "it", "ten"), Out: failure(text("overwritten"))}
	}
}

// found are all answers of a table: what All yields, and each key's Find.
func found(tab *table.Table, rows []api.Entry) []api.Entry {
	out := rowsOf(tab)
	for _, entry := range rows {
		o, _ := tab.Find(entry.Call)
		out = append(out, api.Entry{Call: entry.Call, Out: o})
	}
	return out
}

// P25.1, R3: what New is handed is left as it is, spare room too, and what is written into it later isn't seen.
func TestEntriesAreLeftAndCopied(t *testing.T) {
	rows, keys := roomyRows(), roomyRows()
	before := fullRows(rows)
	tab := table.New(rows)
	want := speltRows(found(tab, keys))
	if fullRows(rows) != before {
		t.Error("the rows were changed")
	}
	overwriteRows(rows)
	if got := speltRows(found(tab, keys)); got != want || tab.Len() != len(anyValues()) {
		t.Error("what was written into the rows is seen")
	}
	checkMissing(t, tab, call("over", "wr", "it", "ten"))
}

// P25.2, P25.3: what is written into an answer, no other answer sees, be it an earlier or a later one, nor do the rows.
func TestAnswersAreNew(t *testing.T) {
	rows := roomyRows()
	before := fullRows(rows)
	tab := table.New(rows)
	first, second := found(tab, rows), found(tab, rows)
	want := speltRows(first)
	overwriteRows(first)
	if speltRows(second) != want {
		t.Error("another answer was written over")
	}
	if speltRows(found(tab, rows)) != want {
		t.Error("a later answer is another")
	}
	if fullRows(rows) != before {
		t.Error("the rows were written over")
	}
}

// P25.3: what is written into what a range yields, neither that range nor one inside of it sees.
func TestYieldsAreNew(t *testing.T) {
	rows := roomyRows()
	tab := table.New(rows)
	want := speltRows(rowsOf(tab))
	var seen, inner []api.Entry
	for c, o := range tab.All() {
		seen = append(seen, api.Entry{Call: c, Out: api.Outcome{Fail: o.Fail, Value: full(o.Value)}})
		overwrite(o.Value)
		inner = inner[:0]
		for c, o := range tab.All() {
			inner = append(inner, api.Entry{Call: c, Out: api.Outcome{Fail: o.Fail, Value: full(o.Value)}})
			overwrite(o.Value)
		}
	}
	if speltRows(seen) != want || speltRows(inner) != want {
		t.Error("what was written into a value is seen")
	}
}

// room is where a list lies, spare room too.
type room struct{ from, to uintptr }

// rooms are those of all lists of rows' values.
func rooms(rows []api.Entry) []room {
	var out []room
	var through func(v api.Value)
	through = func(v api.Value) {
		from, size := uintptr(unsafe.Pointer(unsafe.SliceData(v.Items))), uintptr(cap(v.Items))*unsafe.Sizeof(api.Value{})
		out = append(out, room{from, from + size})
		from, size = uintptr(unsafe.Pointer(unsafe.SliceData(v.Fields))), uintptr(cap(v.Fields))*unsafe.Sizeof(api.Member{})
		out = append(out, room{from, from + size})
		for _, x := range v.Items {
			through(x)
		}
		for _, m := range v.Fields {
			through(m.Value)
		}
	}
	for _, entry := range rows {
		through(entry.Out.Value)
	}
	return slices.DeleteFunc(out, func(r room) bool { return r.from == r.to })
}

// R3: no list of an answer lies where another list lies.
func TestNoListIsShared(t *testing.T) {
	rows := roomyRows()
	tab := table.New(rows)
	one, two := found(tab, rows), found(tab, rows)
	all := slices.Concat(rooms(rows), rooms(one), rooms(two))
	if len(all) < 1000 {
		t.Fatal("lists:", len(all))
	}
	slices.SortFunc(all, func(a, b room) int {
		if a.from < b.from {
			return -1
		}
		return 1
	})
	for i, r := range all[1:] {
		if r.from < all[i].to {
			t.Error("two lists lie at one place")
		}
	}
	runtime.KeepAlive([][]api.Entry{rows, one, two})
}

// R3: what Key is handed is left as it is, and may be written over behind it.
func TestKeyArgumentsAreLeft(t *testing.T) {
	for _, bad := range []bool{false, true} {
		path := append(steps(name("a"), item(3), name("b")), name("spare"))[:3]
		given := roomy(object(member("b", list(whole(1), object(member("d", text("x")), member("c", float(2))))), member("a", noisy(api.KindInt))))
		if bad {
			given.Fields[0].Value.Items[0] = handle("T", "x")
		}
		before := spelt(full(given))
		key, errno := table.Key(path, "T", "f", given.Fields)
		if bad != (errno != api.OK) {
			t.Error(errno)
		}
		if spelt(full(given)) != before || path[1] != item(3) || path[:4][3] != name("spare") {
			t.Error("what was handed in was changed")
		}
		overwrite(given)
		path[0] = name("overwritten")
		if want := call("/a/3/b", "T", "f", `{"b":[1,{"d":"x","c":2.0}],"a":7}`); !bad && key != want {
			t.Error("the key was written over:", speltCall(key))
		}
	}
}

// R3: what Idle is handed is left as it is; its answer is new memory, spare room too.
func TestIdleArgumentsAreLeft(t *testing.T) {
	rows := roomyRows()
	trace := []api.Call{rows[3].Call, rows[2].Call, rows[3].Call, {}, call("spare", "", "", "")}
	before, calls := fullRows(rows), slices.Clone(trace)
	first, second := table.Idle(rows, trace[:4]), table.Idle(rows, trace[:4])
	want := slices.Clone(first)
	if fullRows(rows) != before || !slices.Equal(trace, calls) {
		t.Error("what was handed in was changed")
	}
	for i := range first[:cap(first)] {
		first[:cap(first)][i] = -1
	}
	if !slices.Equal(second, want) || !slices.Equal(table.Idle(rows, trace[:4]), want) {
		t.Error("an answer was written over")
	}
}

// R2: several that ask at one time, and write over what they are answered, are answered alike.
func TestAskedAtOneTime(t *testing.T) {
	rows := roomyRows()
	tab := table.New(rows)
	want := speltRows(found(tab, rows))
	var wait sync.WaitGroup
	wrong := make([]bool, 16)
	for i := range wrong {
		wait.Go(func() {
			for range 20 {
				got := found(tab, rows)
				wrong[i] = wrong[i] || speltRows(got) != want || tab.Len() != len(anyValues())
				overwriteRows(got)
			}
		})
	}
	wait.Wait()
	if slices.Contains(wrong, true) {
		t.Error("answers were unlike")
	}
}
