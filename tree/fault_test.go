package tree_test

import (
	"math"
	"math/rand"
	"slices"
	"strconv"
	"testing"

	"pergola/api"
	"pergola/tree"
)

func at(numbers ...int) []api.Pos {
	var out []api.Pos
	for i := 0; i+1 < len(numbers); i += 2 {
		out = append(out, api.Pos{Line: numbers[i], Col: numbers[i+1]})
	}
	return out
}

// toldOf is all of a list of faults, spelt out.
func toldOf(faults []api.Fault) []string {
	var out []string
	for _, f := range faults {
		s := strconv.Itoa(int(f.Kind)) + ":"
		for _, p := range f.Pos {
			s += " " + strconv.Itoa(p.Line) + "," + strconv.Itoa(p.Col)
		}
		out = append(out, s+" "+stepsOf(f.Path))
	}
	return out
}

func wantPlaces(a, b []api.Pos) int {
	for i := 0; i < len(a) && i < len(b); i++ {
		if a[i].Line != b[i].Line {
			return sign(a[i].Line < b[i].Line)
		}
		if a[i].Col != b[i].Col {
			return sign(a[i].Col < b[i].Col)
		}
	}
	if len(a) == len(b) {
		return 0
	}
	return sign(len(a) < len(b))
}

func sign(less bool) int {
	if less {
		return -1
	}
	return 1
}

func wantFaultOrder(a, b api.Fault) int {
	if a.Kind != b.Kind {
		return sign(a.Kind < b.Kind)
	}
	if c := wantPlaces(a.Pos, b.Pos); c != 0 {
		return c
	}
	return wantCompare(a.Path, b.Path)
}

// wantFaults lays fault by fault to its place, unless it is there.
func wantFaults(lists [][]api.Fault) []api.Fault {
	var out []api.Fault
	for _, l := range lists {
		for _, f := range l {
			i := 0
			for i < len(out) && wantFaultOrder(out[i], f) < 0 {
				i++
			}
			if i == len(out) || wantFaultOrder(out[i], f) != 0 {
				out = slices.Insert(out, i, api.Fault{Kind: f.Kind, Pos: f.Pos, Path: plainly(f.Path)})
			}
		}
	}
	return out
}

func plainly(p []api.Step) []api.Step {
	var out []api.Step
	for _, s := range p {
		if s.Item {
			out = append(out, item(s.Index))
		} else {
			out = append(out, name(s.Name))
		}
	}
	return out
}

func TestFaultsExamples(t *testing.T) {
	a := []api.Fault{{Kind: 2, Pos: at(1, 2)}, {Kind: 1, Pos: at(2, 1, 1, 1)}, {Kind: 1, Pos: at(2, 1)}}
	b := []api.Fault{{Kind: 1, Pos: at(1, 9)}, {Kind: 2, Pos: at(1, 2), Path: path(item(0))}, {Kind: 2, Pos: at(1, 2)}}
	cases := []struct {
		lists [][]api.Fault
		want  []api.Fault
	}{
		{nil, nil}, {[][]api.Fault{nil}, nil}, {[][]api.Fault{{}, nil, {}}, nil}, {[][]api.Fault{{{}}}, []api.Fault{{}}}, {[][]api.Fault{{{}, {}}, {{}}}, []api.Fault{{}}},
		{[][]api.Fault{a, b}, []api.Fault{b[0], a[2], a[1], a[0], b[1]}}, {[][]api.Fault{b, nil, a, a, b}, []api.Fault{b[0], a[2], a[1], a[0], b[1]}},
		// Kinds go by their numbers, of no table.
		{[][]api.Fault{{{Kind: 1000}, {Kind: -4}, {Kind: 218}, {Kind: 0}, {Kind: math.MaxInt}, {Kind: math.MinInt}}}, []api.Fault{{Kind: math.MinInt}, {Kind: -4}, {Kind: 0}, {Kind: 218}, {Kind: 1000}, {Kind: math.MaxInt}}},
		// Places ahead of paths; lines ahead of columns, by their numbers; the fewer first.
		{[][]api.Fault{{{Pos: at(2, 1)}, {Pos: at(10, 0)}, {Pos: at(1, 10)}, {Pos: at(1, 9, 5, 5)}, {Pos: at(1, 9)}, {Path: path(name("z"))}, {Pos: at(-1, math.MaxInt)}, {}}},
			[]api.Fault{{}, {Path: path(name("z"))}, {Pos: at(-1, math.MaxInt)}, {Pos: at(1, 9)}, {Pos: at(1, 9, 5, 5)}, {Pos: at(1, 10)}, {Pos: at(2, 1)}, {Pos: at(10, 0)}}},
		{[][]api.Fault{{{Pos: at(1, 1), Path: path(name("a"))}, {Pos: at(1, 1, 1, 1)}}}, []api.Fault{{Pos: at(1, 1), Path: path(name("a"))}, {Pos: at(1, 1, 1, 1)}}},
		// Paths by Compare.
		{[][]api.Fault{{{Path: path(name("a"), item(0))}, {Path: path(name("a"))}, {Path: path(item(10))}, {Path: path(item(9))}, {}}}, []api.Fault{{}, {Path: path(item(9))}, {Path: path(item(10))}, {Path: path(name("a"))}, {Path: path(name("a"), item(0))}}},
		// Places in another order, and a place twice, are other places.
		{[][]api.Fault{{{Pos: at(2, 2, 1, 1)}, {Pos: at(1, 1, 2, 2)}, {Pos: at(1, 1, 1, 1)}, {Pos: at(1, 1)}}}, []api.Fault{{Pos: at(1, 1)}, {Pos: at(1, 1, 1, 1)}, {Pos: at(1, 1, 2, 2)}, {Pos: at(2, 2, 1, 1)}}},
		// What a step doesn't use is passed over, and cleared.
		{[][]api.Fault{{{Path: path(api.Step{Name: "x", Index: 3, Item: true}, api.Step{Name: "y", Index: 4})}}, {{Path: path(api.Step{Index: 3, Item: true}, api.Step{Name: "y", Index: 5})}}}, []api.Fault{{Path: path(item(3), name("y"))}}},
	}
	for i, c := range cases {
		if got := tree.Faults(c.lists...); !slices.Equal(toldOf(got), toldOf(c.want)) {
			t.Errorf("case %d: %q, want %q", i, toldOf(got), toldOf(c.want))
		}
	}
}

func randomFault(source *rand.Rand) api.Fault {
	steps := []api.Step{name("a"), name("b"), item(0), item(1), {Name: "a", Index: 1}, {Name: "a", Index: 1, Item: true}}
	f := api.Fault{Kind: api.Errno(source.Intn(3))}
	for range source.Intn(3) {
		f.Pos = append(f.Pos, api.Pos{Line: source.Intn(3), Col: source.Intn(3)})
	}
	for range source.Intn(3) {
		f.Path = append(f.Path, steps[source.Intn(len(steps))])
	}
	return f
}

func TestFaultsOfRandomLists(t *testing.T) {
	source := rand.New(rand.NewSource(41))
	for range 5000 {
		lists := make([][]api.Fault, source.Intn(5))
		for i := range lists {
			for range source.Intn(12) {
				lists[i] = append(lists[i], randomFault(source))
			}
		}
		got, want := toldOf(tree.Faults(lists...)), toldOf(wantFaults(lists))
		if !slices.Equal(got, want) {
			t.Fatalf("%q, want %q", got, want)
		}
		slices.Reverse(lists)
		for _, l := range lists {
			source.Shuffle(len(l), func(i, j int) { l[i], l[j] = l[j], l[i] })
		}
		if again := toldOf(tree.Faults(lists...)); !slices.Equal(again, want) {
			t.Fatalf("in another order %q, want %q", again, want)
		}
	}
}

func TestFaultsMemory(t *testing.T) {
	spare := api.Fault{Kind: 77, Pos: at(7, 7), Path: path(name("spare"))}
	build := func() [][]api.Fault {
		a := make([]api.Fault, 0, 8)
		for i := range 5 {
			pos := append(at(5-i, 1, 2, 2), api.Pos{Line: 88, Col: 88})[:2]
			steps := append(path(api.Step{Name: "n", Index: i, Item: true}, api.Step{Name: "m", Index: 9}), name("spare"))[:2]
			a = append(a, api.Fault{Kind: api.Errno(i % 2), Pos: pos, Path: steps})
		}
		a = append(a, spare)[:5]
		// The second list holds the same memory as the first.
		return [][]api.Fault{a, {a[3], a[0], a[3]}}
	}
	full := func(lists [][]api.Fault) []string {
		out := append(toldOf(lists[0][:6]), toldOf(lists[1])...)
		for _, f := range lists[0] {
			out = append(out, toldOf([]api.Fault{{Pos: f.Pos[:3], Path: f.Path[:3]}})...)
		}
		return out
	}
	lists := build()
	was := full(lists)
	want := toldOf(wantFaults(lists))
	got := tree.Faults(lists...)
	if !slices.Equal(toldOf(got), want) {
		t.Fatalf("%q", toldOf(got))
	}
	// What is written into one fault's lists is seen in no other fault, and not in what was handed in.
	for i := range got {
		pos, steps := got[i].Pos[:cap(got[i].Pos)], got[i].Path[:cap(got[i].Path)]
		for j := range pos {
			pos[j] = api.Pos{Line: -1, Col: -1}
		}
		for j := range steps {
			steps[j] = name("scribbled")
		}
		if i+1 < len(got) && !slices.Equal(toldOf(got[i+1:]), want[i+1:]) {
			t.Fatalf("fault %d shares memory with a later one", i)
		}
	}
	all := got[:cap(got)]
	for i := range all {
		all[i] = api.Fault{Kind: -1}
	}
	if !slices.Equal(full(lists), was) {
		t.Error("Faults has changed or shares what it was handed")
	}
	if again := tree.Faults(lists...); !slices.Equal(toldOf(again), want) {
		t.Error("Faults answers old memory")
	}
	// A list that is a set and in order already is copied too.
	one := []api.Fault{{Kind: 1, Pos: at(1, 1), Path: path(name("a"))}}
	two := tree.Faults(one)
	two[0].Pos[0].Line, two[0].Path[0].Name, two[0].Kind = 9, "z", 9
	if one[0].Pos[0].Line != 1 || one[0].Path[0].Name != "a" || one[0].Kind != 1 {
		t.Error("Faults of one list shares its memory")
	}
}

func TestFaultsOfManyFaults(t *testing.T) {
	const many = 100000
	var l []api.Fault
	for i := range many {
		l = append(l, api.Fault{Kind: 200, Pos: at(1+(i*7919)%many/2, 1)})
	}
	got := tree.Faults(l, l)
	if len(got) != many/2 {
		t.Fatalf("%d faults", len(got))
	}
	for i, f := range got {
		if f.Pos[0].Line != i+1 {
			t.Fatalf("fault %d is at line %d", i, f.Pos[0].Line)
		}
	}
}
