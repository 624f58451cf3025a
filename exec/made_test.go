package exec_test

import (
	"math/rand"
	"reflect"
	"runtime"
	"slices"
	"strconv"
	"strings"
	"testing"

	"pergola/api"
	"pergola/exec"
	"pergola/tree"
)

// P26.1, P26.2: documents and tables by chance, held against the model, with room enough and too little.
func TestMadeByChance(t *testing.T) {
	types := sound(t, zoo)
	whole, failed, faulty, deep, wide, overs := 0, 0, 0, 0, 0, 0
	for seed := range int64(1500) {
		m := newMaker(seed, types, seed%2 == 0)
		c := m.make(t)
		want := modelled(types, c.doc, 0, c.vars, c.entries, 250)
		got := exec.Run(types, c.doc, 0, c.vars, c.entries, 250)
		alike(t, c.src, got, want)
		for _, nodes := range []int{want.Nodes, want.Nodes - 1, m.r.Intn(want.Nodes + 1), -1} {
			less := exec.Run(types, c.doc, 0, c.vars, c.entries, nodes)
			alike(t, c.src+" of "+strconv.Itoa(nodes), less, modelled(types, c.doc, 0, c.vars, c.entries, max(nodes, 0)))
		}
		if t.Failed() {
			return
		}
		switch {
		case want.Over:
			overs++
		case want.Data.Kind == api.KindNull:
			failed++
		default:
			whole++
		}
		if len(want.Faults) > 2 {
			faulty++
		}
		if slices.ContainsFunc(want.Trace, func(c api.Call) bool { return strings.Count(c.Path, "/") > 4 }) {
			deep++
		}
		if want.Nodes > 30 {
			wide++
		}
	}
	if whole < 800 || failed < 200 || faulty < 200 || deep < 200 || wide < 200 || overs < 5 {
		t.Error("too few:", whole, failed, faulty, deep, wide, overs)
	}
}

// P26.3: rows in another order (of one key the first stays the first), and rows that no look-up meets, make no difference; nor does how goroutines run.
func TestOrderOfRows(t *testing.T) {
	types := sound(t, zoo)
	defer runtime.GOMAXPROCS(runtime.GOMAXPROCS(0))
	for seed := range int64(300) {
		m := newMaker(10000+seed, types, false)
		c := m.make(t)
		want := exec.Run(types, c.doc, 0, c.vars, c.entries, 1000)
		var first []api.Entry
		for _, e := range c.entries {
			if !slices.ContainsFunc(first, func(f api.Entry) bool { return f.Call == e.Call }) {
				first = append(first, e)
			}
		}
		for procs := range 4 {
			runtime.GOMAXPROCS(1 + procs*procs)
			rand.New(rand.NewSource(seed)).Shuffle(len(first), func(i, k int) { first[i], first[k] = first[k], first[i] })
			rows := slices.Concat(table(t, `/zzz Query a {} 1`, `/a Feed a {"x":1} 7`), first, table(t, `/zzz Query a {} 2`))
			alike(t, c.src, exec.Run(types, c.doc, 0, c.vars, rows, 1000), want)
		}
	}
}

// at is what stands in data at a path, and whether a null stands on the way to it or there.
func at(v api.Value, path []api.Step) (api.Value, bool) {
	for _, s := range path {
		if v.Kind == api.KindNull {
			return v, true
		}
		if s.Item {
			v = v.Items[s.Index]
		} else {
			v = v.Fields[slices.IndexFunc(v.Fields, func(m api.Member) bool { return m.Name == s.Name })].Value
		}
	}
	return v, v.Kind == api.KindNull
}

// nulls are the paths of all nulls in data.
func nulls(v api.Value, path []api.Step) [][]api.Step {
	var out [][]api.Step
	switch v.Kind {
	case api.KindNull:
		out = append(out, slices.Clone(path))
	case api.KindList:
		for i, item := range v.Items {
			out = append(out, nulls(item, append(path, api.Step{Index: i, Item: true}))...)
		}
	case api.KindObject:
		for _, m := range v.Fields {
			out = append(out, nulls(m.Value, append(path, api.Step{Name: m.Name}))...)
		}
	}
	return out
}

// answered: did the table answer a null at a path?
func answered(c made, trace []api.Call, path []api.Step) bool {
	last := len(path) - 1
	for last >= 0 && path[last].Item {
		last--
	}
	text := tree.PathText(path[:last+1])
	for _, call := range trace {
		if call.Path != text {
			continue
		}
		i := slices.IndexFunc(c.entries, func(e api.Entry) bool { return e.Call == call })
		if i < 0 || c.entries[i].Out.Fail {
			return false
		}
		v := c.entries[i].Out.Value
		for _, s := range path[last+1:] {
			if v.Kind != api.KindList {
				return false
			}
			v = v.Items[s.Index]
		}
		return v.Kind < api.KindBool || v.Kind > api.KindHandle
	}
	return false
}

// Each null that no resolver answered has a fault there or beneath it, and each fault leads to a null or through one.
func TestNullsAndFaults(t *testing.T) {
	types := sound(t, zoo)
	count := 0
	for seed := range int64(1500) {
		c := newMaker(20000+seed, types, false).make(t)
		r := exec.Run(types, c.doc, 0, c.vars, c.entries, 1000)
		for _, f := range r.Faults {
			if _, isNull := at(r.Data, f.Path); !isNull {
				t.Fatalf("%s: the fault at %s leads to no null in %s", c.src, tree.PathText(f.Path), toldData(r.Data))
			}
		}
		for _, path := range nulls(r.Data, nil) {
			if r.Over {
				break
			}
			count++
			isBeneath := slices.ContainsFunc(r.Faults, func(f api.Fault) bool {
				return len(f.Path) >= len(path) && reflect.DeepEqual(append([]api.Step{}, f.Path[:len(path)]...), append([]api.Step{}, path...))
			})
			if !isBeneath && !answered(c, r.Trace, path) {
				t.Fatalf("%s: the null at %s has no fault: %s", c.src, tree.PathText(path), toldData(r.Data))
			}
		}
	}
	if count < 500 {
		t.Error("too few:", count)
	}
}
