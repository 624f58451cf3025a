package exec_test

import (
	"runtime"
	"strconv"
	"strings"
	"testing"

	"pergola/api"
	"pergola/exec"
	"pergola/tree"
)

// listRow is a row of the field ns or is at the path of its name, with so many items.
func listRow(field string, items int, item api.Value) api.Entry {
	row := api.Entry{Call: api.Call{Path: "/" + field, Parent: "Query", Field: field, Args: "{}"}, Out: api.Outcome{Value: api.Value{Kind: api.KindList, Items: make([]api.Value, items)}}}
	for i := range items {
		row.Out.Value.Items[i] = item
	}
	return row
}

// allocated is how many bytes a call takes in all.
func allocated(do func()) uint64 {
	var before, after runtime.MemStats
	runtime.ReadMemStats(&before)
	do()
	runtime.ReadMemStats(&after)
	return after.TotalAlloc - before.TotalAlloc
}

// P26.2: as many top fields as there may be nodes, and more.
func TestManyTopFields(t *testing.T) {
	types := sound(t, zoo)
	for _, most := range []int{api.MostNodes, api.MostNodes + 1} {
		for _, kind := range []string{"query", "mutation"} {
			doc := parse(t, kind+" {"+numbered(most, "k#: a ")+"}")
			rows := table(t, `/k7 Query a {"x":1} 7`, `/k7 Change a {"x":1} 7`)
			r := exec.Run(types, doc, 0, nil, rows, api.MostNodes)
			if r.Over != (most > api.MostNodes) {
				t.Error(most, kind, r.Over)
			}
			if !r.Over && (r.Nodes != most || len(r.Trace) != most || len(r.Faults) != most-1 || r.Trace[most-1].Path != "/k"+strconv.Itoa(most-1) || r.Faults[most-2].Pos[0].Col < most || r.Data.Fields[7].Value.Int != 7) {
				t.Error(kind, r.Nodes, len(r.Trace), len(r.Faults))
			}
		}
	}
}

// P26.2: of what stands behind the last node that there is room for nothing more is worked at; and what the faults up to there would take is not taken.
func TestOverIsFoundOut(t *testing.T) {
	types := sound(t, zoo)
	merged := parse(t, "{"+strings.Repeat("ns ", 100000)+"}")
	spread := parse(t, "{"+numbered(60000, "k#: q {...F} ")+"} fragment F on Query {"+numbered(60000, "l#: a ")+"}")
	var handles []api.Entry
	for i := range 60000 {
		handles = append(handles, api.Entry{Call: api.Call{Path: "/k" + strconv.Itoa(i), Parent: "Query", Field: "q", Args: "{}"}, Out: api.Outcome{Value: handle("Query", "")}})
	}
	for i, r := range []struct {
		doc  api.Document
		rows []api.Entry
	}{
		{merged, []api.Entry{listRow("ns", 200000, api.Value{})}},
		{parse(t, "{is {"+strings.Repeat("a ", 100000)+"}}"), []api.Entry{listRow("is", 100000, handle("O", ""))}},
		{spread, handles},
	} {
		var over bool
		bytes := allocated(func() { over = exec.Run(types, r.doc, 0, nil, r.rows, api.MostNodes).Over })
		if !over || bytes > 3<<30 {
			t.Error(i, over, bytes)
		}
	}
}

// An answer without an end in sight ends: each level has more fields than the one above it.
func TestEndless(t *testing.T) {
	types := sound(t, zoo)
	src := "{__schema {types {...F0}}}"
	for i := range 60 {
		n := strconv.Itoa(i)
		src += " fragment F" + n + " on __Type {fields {type {ofType {...F" + strconv.Itoa(i+1) + "} ...F" + strconv.Itoa(i+1) + "} args {type {...F" + strconv.Itoa(i+1) + "}}} interfaces {...F" + strconv.Itoa(i+1) + "}}"
	}
	doc := valid(t, types, src+" fragment F60 on __Type {name}")
	for _, nodes := range []int{10, 1000, api.MostNodes} {
		if !exec.Run(types, doc, 0, nil, nil, nodes).Over {
			t.Error(nodes)
		}
	}
}

// As many items as there may be nodes, each an object or a fault.
func TestManyItems(t *testing.T) {
	types := sound(t, zoo)
	doc := valid(t, types, "{is {__typename} is {...F}} fragment F on Query {__typename}")
	const most = (api.MostNodes - 1) / 2
	r := exec.Run(types, doc, 0, nil, []api.Entry{listRow("is", most, handle("O", ""))}, api.MostNodes)
	if r.Over || r.Nodes != 2*most+1 || len(r.Data.Fields[0].Value.Items) != most || r.Data.Fields[0].Value.Items[most-1].Fields[0].Value.Text != "O" {
		t.Error(r.Over, r.Nodes)
	}
	r = exec.Run(types, doc, 0, nil, []api.Entry{listRow("is", api.MostNodes-1, handle("Nope", ""))}, api.MostNodes)
	if r.Over || len(r.Faults) != api.MostNodes-1 || tree.PathText(r.Faults[65000].Path) != "/is/65000" || len(r.Faults[65000].Pos) != 2 {
		t.Error(r.Over, len(r.Faults))
	}
}

// Many items, each of which has many fields that were merged out of many.
func TestManyItemsOfManyFields(t *testing.T) {
	types := sound(t, zoo)
	doc := parse(t, "{is {"+strings.Repeat("x: __typename ", 100000)+strings.Repeat("a ...F ", 500)+"}} fragment F on I {"+strings.Repeat("a ", 500)+"}")
	r := exec.Run(types, doc, 0, nil, []api.Entry{listRow("is", 20000, handle("O", ""))}, api.MostNodes)
	if r.Over || r.Nodes != 60001 || len(r.Trace) != 20001 || len(r.Faults) != 20000 || len(r.Faults[7].Pos) != 1000 {
		t.Error(r.Over, r.Nodes, len(r.Trace), len(r.Faults))
	}
}

// Great tables, with values of many parts that no look-up meets, or that are no result.
func TestGreatTables(t *testing.T) {
	types := sound(t, zoo)
	doc := valid(t, types, "{a e s}")
	var rows []api.Entry
	for i := range 300000 {
		rows = append(rows, api.Entry{Call: api.Call{Path: "/" + strconv.Itoa(i), Parent: "Query", Field: "a", Args: "{}"}})
	}
	rows = append(rows, listRow("e", 1000000, api.Value{}), listRow("s", 1000000, api.Value{Kind: api.KindInt, Int: 3}))
	rows = append(rows, table(t, `/a Query a {"x":1} 1`)...)
	r := exec.Run(types, doc, 0, nil, rows, 3)
	if r.Over || r.Nodes != 3 || toldFaults(r.Faults) != "result /e 1:4" || r.Data.Kind != api.KindNull {
		t.Error(r.Over, r.Nodes, toldFaults(r.Faults))
	}
}

// deep is a chain of fragments, each of which is the next one's frame.
func deep(levels int, on, before, after, last string) string {
	var out strings.Builder
	for i := range levels {
		out.WriteString(" fragment F" + strconv.Itoa(i) + " on " + on + " {" + before + "...F" + strconv.Itoa(i+1) + after + "}")
	}
	return out.String() + " fragment F" + strconv.Itoa(levels) + " on " + on + " {" + last + "}"
}

// R1: an answer that is nested as deep as there may be nodes.
func TestDeepAnswer(t *testing.T) {
	types := sound(t, "type Query {q: Query}")
	const levels = (api.MostNodes - 3) / 3
	doc := parse(t, "{__type(name: \"Query\") {...F0}}"+deep(levels, "__Type", "fields {type {", "}}", "n: name"))
	r := exec.Run(types, doc, 0, nil, nil, api.MostNodes)
	if r.Over || r.Nodes != 3*levels+2 || len(r.Faults) > 0 {
		t.Fatal(r.Over, r.Nodes, len(r.Faults))
	}
	v := r.Data.Fields[0].Value
	for range levels {
		v = v.Fields[0].Value.Items[0].Fields[0].Value
	}
	if v.Fields[0].Value.Text != "Query" {
		t.Error(v)
	}
	if r := exec.Run(types, doc, 0, nil, nil, 3*levels+1); !r.Over {
		t.Error(r.Nodes)
	}
}

// R1: an answer that is nested deep, all of which fails at its end; and deep look-ups.
func TestDeepFault(t *testing.T) {
	types := sound(t, zoo)
	const levels = 4000
	doc := parse(t, "{q {...F0}}"+deep(levels, "Query", "q {", "}", "b"))
	var rows []api.Entry
	path := "/q"
	for range levels + 1 {
		rows = append(rows, api.Entry{Call: api.Call{Path: path, Parent: "Query", Field: "q", Args: "{}"}, Out: api.Outcome{Value: handle("Query", "")}})
		path += "/q"
	}
	r := exec.Run(types, doc, 0, nil, rows, api.MostNodes)
	if r.Over || r.Nodes != levels+2 || r.Data.Kind != api.KindNull || len(r.Faults) != 1 || len(r.Faults[0].Path) != levels+2 || len(r.Trace) != levels+2 {
		t.Error(r.Over, r.Nodes, len(r.Faults), len(r.Trace))
	}
}

// R1: values that are nested as deep as any: in a custom scalar, in lists, and where they are no result.
func TestDeepValues(t *testing.T) {
	types := sound(t, zoo)
	doc := valid(t, types, "{s ns n(x: 1) ss a}")
	v := api.Value{Kind: api.KindInt, Int: 7}
	for i := range 1<<16 - 20 {
		if i%2 == 0 {
			v = api.Value{Kind: api.KindList, Items: []api.Value{v}}
		} else {
			v = api.Value{Kind: api.KindObject, Fields: []api.Member{{Name: "m", Value: v}}}
		}
	}
	rows := table(t, `/s Query s {} 1`, `/ns Query ns {} 1`, `/n Query n {"x":1} 1`, `/ss Query ss {} 1`, `/a Query a {"x":1} 1`)
	for i := range rows {
		rows[i].Out.Value = v
	}
	rows[3].Out.Value = api.Value{Kind: api.KindList, Items: []api.Value{v, {}, v}}
	r := exec.Run(types, doc, 0, nil, rows, 100)
	if toldFaults(r.Faults) != "result /ns 1:4, result /n 1:7, result /a 1:18" || r.Nodes != 8 {
		t.Error(toldFaults(r.Faults), r.Nodes)
	}
	doc = valid(t, types, "{s ss}")
	r = exec.Run(types, doc, 0, nil, rows, 100)
	if len(r.Faults) > 0 || !tree.Equal(r.Data.Fields[0].Value, v) || !tree.Equal(r.Data.Fields[1].Value.Items[2], v) {
		t.Error(toldFaults(r.Faults))
	}
}
