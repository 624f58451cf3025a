package table_test

import (
	"math/rand"
	"slices"
	"strings"
	"testing"

	"pergola/api"
	"pergola/jsonin"
	"pergola/table"
	"pergola/tree"
)

func pick[T any](source *rand.Rand, all []T) T { return all[source.Intn(len(all))] }

// All lists of up to four rows over three keys, failures or not, and all traces of up to three look-ups.
func TestAllSmallTables(t *testing.T) {
	keys := []api.Call{{}, call("a", "", "", ""), call("", "a", "", "")}
	asked := append(slices.Clone(keys), call("", "", "a", ""))
	var traces [][]api.Call
	eachList(asked, 3, func(trace []api.Call) { traces = append(traces, slices.Clone(trace)) })
	var choices []api.Entry
	for i, key := range keys {
		choices = append(choices, api.Entry{Call: key, Out: failure(whole(9))}, api.Entry{Call: key, Out: value(whole(int64(i)))})
	}
	n := 0
	eachList(choices, 4, func(rows []api.Entry) {
		n++
		m := model(slices.Clone(rows))
		for i := range m {
			m[i].Out.Value.Int += int64(10 * i)
		}
		m.check(t, asked)
		for _, trace := range traces {
			checkIdle(t, m, trace, m.idle(trace)...)
		}
	})
	if n != 1+6+36+216+1296 || len(traces) != 1+4+16+64 {
		t.Error(n, len(traces))
	}
}

// eachList goes through all lists of up to so many of these.
func eachList[T any](of []T, most int, do func(list []T)) {
	var grow func(list []T)
	grow = func(list []T) {
		do(list)
		if len(list) < most {
			for _, x := range of {
				grow(append(list, x))
			}
		}
	}
	grow(nil)
}

// Rows and look-ups by chance, over few keys, so that many rows have one key, and over many.
func TestTablesByChance(t *testing.T) {
	source := rand.New(rand.NewSource(25))
	every, values := oddCalls(oddTexts()), anyValues()
	for range 3000 {
		var keys []api.Call
		for range 1 + source.Intn(20) {
			keys = append(keys, pick(source, every))
		}
		var m model
		for range source.Intn(40) {
			m = append(m, api.Entry{Call: pick(source, keys), Out: api.Outcome{Fail: source.Intn(3) == 0, Value: pick(source, values)}})
		}
		m.check(t, append(keys, pick(source, every)))
		var trace []api.Call
		for range source.Intn(20) {
			trace = append(trace, pick(source, keys))
		}
		checkIdle(t, m, trace, m.idle(trace)...)
	}
}

// P25.3 and P25.5: if all rows that count were looked up, the others are idle, and no other.
func TestIdleAgainstAll(t *testing.T) {
	source := rand.New(rand.NewSource(255))
	every := oddCalls([]string{"", "a", "b"})
	for range 1000 {
		var rows []api.Entry
		for i := range source.Intn(60) {
			rows = append(rows, api.Entry{Call: pick(source, every), Out: value(whole(int64(i)))})
		}
		tab := table.New(rows)
		var trace []api.Call
		isIdle := make([]bool, len(rows))
		for i := range isIdle {
			isIdle[i] = true
		}
		for c, o := range tab.All() {
			trace = append(trace, c)
			isIdle[o.Value.Int] = false
		}
		source.Shuffle(len(trace), func(i, j int) { trace[i], trace[j] = trace[j], trace[i] })
		var want []int
		for i, idle := range isIdle {
			if idle {
				want = append(want, i)
			}
		}
		checkIdle(t, rows, trace, want...)
		if len(want)+tab.Len() != len(rows) {
			t.Error(len(want), tab.Len(), len(rows))
		}
	}
}

// parts are what a key is made of.
type parts struct {
	path          []api.Step
	parent, field string
	args          []api.Member
}

func madeParts(source *rand.Rand) parts {
	var p parts
	for range source.Intn(4) {
		if source.Intn(3) == 0 {
			p.path = append(p.path, api.Step{Name: pick(source, oddTexts()), Index: source.Intn(12) - 1, Item: true})
		} else {
			p.path = append(p.path, api.Step{Name: pick(source, append(oddTexts(), "0", "-1", "~", "~1")), Index: source.Intn(2)})
		}
	}
	p.parent, p.field = pick(source, oddTexts()), pick(source, oddTexts())
	p.args = madeValue(source, api.KindObject, 3).Fields
	return p
}

// madeValue is a value by chance, now and then one that may not be written.
func madeValue(source *rand.Rand, kind api.Kind, depth int) api.Value {
	if depth == 0 || kind != api.KindList && kind != api.KindObject {
		if source.Intn(40) == 0 {
			return pick(source, anyValues())
		}
		return pick(source, []api.Value{{}, truth(true), whole(1), float(1), text("1"), text("\xc3\xa9"), list(), object(), noisy(api.KindInt), noisy(api.KindString)})
	}
	v := noisy(kind)
	v.Items, v.Fields = nil, nil
	for _, name := range []string{"a", "b", "é\n", ""}[:source.Intn(4)] {
		child := madeValue(source, api.Kind(source.Intn(8)), depth-1)
		if source.Intn(60) == 0 {
			name = pick(source, []string{"a", "\xff"})
		}
		if kind == api.KindList {
			v.Items = append(v.Items, child)
		} else {
			v.Fields = append(v.Fields, member(name, child))
		}
	}
	return v
}

// P25.4: a key is read back as what it was made of; what layer 3 calls unsound is refused with its error.
func TestKeysReadBack(t *testing.T) {
	source := rand.New(rand.NewSource(4))
	refused := 0
	for range 40000 {
		p := madeParts(source)
		key, errno := table.Key(p.path, p.parent, p.field, p.args)
		if _, want := tree.Sound(object(p.args...)); errno != want {
			t.Fatalf("Key(%v): %d, want %d", p.args, errno, want)
		}
		if errno != api.OK {
			refused++
			if key != (api.Call{}) {
				t.Fatalf("Key(%v): %s beside an error", p.args, speltCall(key))
			}
			continue
		}
		path, ok := tree.PathRead(key.Path)
		if !ok || tree.Compare(path, p.path) != 0 || key.Parent != p.parent || key.Field != p.field {
			t.Fatalf("Key(%v, %q, %q) = %s", p.path, p.parent, p.field, speltCall(key))
		}
		read, _, errno := jsonin.Read([]byte(key.Args), api.MostDepth)
		if errno != api.OK || !tree.Equal(read, object(p.args...)) || strings.ContainsAny(key.Args, " \t\r\n") {
			t.Fatalf("Key of %v: %s", p.args, key.Args)
		}
	}
	if refused < 1000 || refused > 20000 {
		t.Error("refused:", refused)
	}
}

// Two look-ups have one key just if they are alike in path, type, field and arguments.
func TestKeysAreUnlike(t *testing.T) {
	source := rand.New(rand.NewSource(44))
	same := 0
	for range 300 {
		a, b := madeParts(source), madeParts(source)
		for range 60 {
			mixed := parts{pick(source, []parts{a, b}).path, pick(source, []parts{a, b}).parent, pick(source, []parts{a, b}).field, pick(source, []parts{a, b}).args}
			one, errno := table.Key(a.path, a.parent, a.field, a.args)
			other, errnoToo := table.Key(mixed.path, mixed.parent, mixed.field, mixed.args)
			if errno != api.OK || errnoToo != api.OK {
				continue
			}
			alike := tree.Compare(a.path, mixed.path) == 0 && a.parent == mixed.parent && a.field == mixed.field && tree.Equal(object(a.args...), object(mixed.args...))
			if alike != (one == other) {
				t.Errorf("%v and %v: %s and %s", a, mixed, speltCall(one), speltCall(other))
			}
			if alike {
				same++
			}
		}
	}
	if same < 500 {
		t.Error("alike:", same)
	}
}
