package tree_test

import (
	"iter"
	"math/rand"
	"slices"
	"testing"

	"pergola/api"
	"pergola/tree"
)

// place is a part with its path. No path leads to one that is hidden: a member of the same name stands ahead of it, or of what it lies in.
type place struct {
	path   []api.Step
	v      api.Value
	hidden bool
}

// placesOf are the parts of a value in order, by the words of the chapter.
func placesOf(v api.Value) []place {
	out := []place{{v: v}}
	lay := func(step api.Step, v api.Value, hidden bool) {
		for _, p := range placesOf(v) {
			out = append(out, place{slices.Concat(path(step), p.path), p.v, p.hidden || hidden})
		}
	}
	if v.Kind == api.KindList {
		for i, x := range v.Items {
			lay(item(i), x, false)
		}
	}
	if v.Kind == api.KindObject {
		for i, m := range v.Fields {
			lay(name(m.Name), m.Value, slices.ContainsFunc(v.Fields[:i], func(n api.Member) bool { return n.Name == m.Name }))
		}
	}
	return out
}

// leadsTo is the number of the part to which a path leads; -1 where it leads nowhere.
func leadsTo(parts []place, p []api.Step) int {
	return slices.IndexFunc(parts, func(x place) bool { return !x.hidden && wantCompare(x.path, p) == 0 })
}

func TestGetExamples(t *testing.T) {
	v := sample()
	if got, ok := tree.Get(v, path(name("a"), item(1), name("b"))); !ok || whole(got) != whole(api.Value{}) {
		t.Error("Get /a/1/b")
	}
	if got, ok := tree.Get(v, nil); !ok || whole(got) != whole(v) {
		t.Error("Get of the empty path")
	}
	// The fields that a step's kind doesn't use are passed over.
	if got, ok := tree.Get(v, path(api.Step{Name: "a", Index: 7}, api.Step{Name: "zzz", Item: true})); !ok || got.Int != 1 {
		t.Error("Get with steps that have more than they use")
	}
	if got, ok := tree.Get(object(mem("a", num(1)), mem("a", num(2))), path(name("a"))); !ok || got.Int != 1 {
		t.Error("Get of a name that stands twice")
	}
	// What is behind the first member of a name can't be reached.
	if _, ok := tree.Get(object(mem("a", num(1)), mem("a", list(num(2)))), path(name("a"), item(0))); ok {
		t.Error("Get beneath the second member of a name")
	}
}

type aim struct {
	path []api.Step
	v    api.Value
}

// nowhere are paths that lead nowhere from their values.
func nowhere() []aim {
	v := sample()
	return []aim{
		{path(name("a"), item(2)), v}, {path(item(0)), v}, {path(name("a"), name("b")), v}, {path(name("a"), item(-1)), v}, {path(name("c"), name("")), v}, {path(name("c"), item(0)), v}, {path(name("")), v}, {path(name("A")), v},
		{path(name("a"), item(2), item(0)), v}, {path(name("z"), name("a")), v}, {path(api.Step{Name: "a", Item: true}), v}, {path(name("a"), api.Step{Name: "0", Index: 0}), v},
		{path(item(0)), list()}, {path(name("")), object()}, {path(item(0)), api.Value{}}, {path(name("x")), num(1)}, {path(item(0)), text("abc")}, {path(name("")), handle("T", "x")},
		{path(item(0)), junk(api.KindInt)}, {path(name("x")), junk(api.KindInt)}, {path(name("x")), junk(api.KindList)}, {path(item(0)), junk(api.KindObject)}, {path(item(0)), junk(9)}, {path(name("x")), junk(9)}, {path(item(0)), junk(-1)}, {path(name("x")), junk(api.KindHandle)},
		{path(item(int(^uint(0) >> 1))), v}, {path(name("a"), item(-int(^uint(0)>>1)-1)), v},
	}
}

func TestGetAndSetNowhere(t *testing.T) {
	for _, c := range nowhere() {
		if got, ok := tree.Get(c.v, c.path); ok || whole(got) != whole(api.Value{}) {
			t.Errorf("Get(%s, %s) = %s, %v", counting(c.v), stepsOf(c.path), whole(got), ok)
		}
		if got, ok := tree.Set(c.v, c.path, num(5)); ok || whole(got) != whole(api.Value{}) {
			t.Errorf("Set(%s, %s) = %s, %v", counting(c.v), stepsOf(c.path), whole(got), ok)
		}
	}
}

// Every path of a few steps, over random values, against the list of their parts.
func TestGetAndSetOfRandomValues(t *testing.T) {
	steps := []api.Step{name("a"), name("b"), name(""), name("c"), item(0), item(1), item(2), item(-1), {Name: "a", Index: 1, Item: true}, {Name: "a", Index: 1}}
	source := rand.New(rand.NewSource(31))
	w := roomy(object(mem("new", list(junk(api.KindInt)))))
	wasW := whole(w)
	found := 0
	for range 3000 {
		v := roomy(random(source, leaves(), 4))
		was, parts := whole(v), placesOf(v)
		for range 30 {
			var p []api.Step
			for range source.Intn(4) {
				p = append(p, steps[source.Intn(len(steps))])
			}
			i := leadsTo(parts, p)
			got, ok := tree.Get(v, p)
			if ok != (i >= 0) || ok && whole(got) != whole(parts[i].v) || !ok && whole(got) != whole(api.Value{}) {
				t.Fatalf("Get(%s, %s) = %s, %v", was, stepsOf(p), whole(got), ok)
			}
			scribble(got)
			set, ok := tree.Set(v, p, w)
			if ok != (i >= 0) || !ok && whole(set) != whole(api.Value{}) {
				t.Fatalf("Set(%s, %s) = %s, %v", was, stepsOf(p), whole(set), ok)
			}
			if ok {
				found++
				if want := replaced(v, i, w); whole(set) != whole(want) {
					t.Fatalf("Set(%s, %s) = %s, want %s", was, stepsOf(p), whole(set), whole(want))
				}
			}
			scribble(set)
			if whole(v) != was || whole(w) != wasW || !marks(v) || !marks(w) {
				t.Fatalf("Get or Set at %s has changed or shares what it was handed", stepsOf(p))
			}
		}
	}
	if found < 5000 {
		t.Errorf("only %d paths lead somewhere", found)
	}
}

// replaced is v with w in the place of its part number i.
func replaced(v api.Value, i int, w api.Value) api.Value {
	if i == 0 {
		return w
	}
	n := 1
	v.Items, v.Fields = slices.Clone(v.Items), slices.Clone(v.Fields)
	if v.Kind == api.KindList {
		for j, x := range v.Items {
			if here := len(partsOf(x)); i >= n && i < n+here {
				v.Items[j] = replaced(x, i-n, w)
				return v
			} else {
				n += here
			}
		}
	}
	for j, m := range v.Fields {
		if here := len(partsOf(m.Value)); i >= n && i < n+here {
			v.Fields[j].Value = replaced(m.Value, i-n, w)
			return v
		} else {
			n += here
		}
	}
	panic("no such part")
}

func TestSetExamples(t *testing.T) {
	twice := object(mem("a", num(1)), mem("a", num(2)))
	got, ok := tree.Set(twice, path(name("a")), text("new"))
	if want := object(mem("a", text("new")), mem("a", num(2))); !ok || whole(got) != whole(want) {
		t.Errorf("Set of a name that stands twice: %s", whole(got))
	}
	if got, ok := tree.Set(sample(), nil, num(7)); !ok || whole(got) != whole(num(7)) {
		t.Error("Set at the empty path")
	}
	if got, ok := tree.Set(api.Value{Kind: 9}, path(), junk(9)); !ok || whole(got) != whole(junk(9)) {
		t.Error("Set at the empty path, of a Kind outside the table")
	}
	v := sample()
	got, ok = tree.Set(v, path(name("a"), item(0)), v)
	if want := object(mem("a", list(sample(), object(mem("b", api.Value{})))), mem("c", text("x"))); !ok || whole(got) != whole(want) {
		t.Errorf("Set of a value in itself: %s", whole(got))
	}
}

func TestGetAndSetDeep(t *testing.T) {
	v, p := chain(nested-1, num(1)), chainPath(nested-1)
	if got, ok := tree.Get(v, p); !ok || got.Int != 1 {
		t.Error("Get")
	}
	if got, ok := tree.Set(v, p, num(2)); !ok || !tree.Equal(got, chain(nested-1, num(2))) || !tree.Equal(v, chain(nested-1, num(1))) {
		t.Error("Set")
	}
	if _, ok := tree.Get(v, append(p, item(0))); ok {
		t.Error("Get one step too far")
	}
}

func checkWalk(t *testing.T, v api.Value) {
	t.Helper()
	want := placesOf(v)
	walk := tree.Walk(v)
	for range 2 {
		n := 0
		for p, part := range walk {
			if n >= len(want) || stepsOf(p) != stepsOf(want[n].path) || whole(part) != whole(want[n].v) {
				t.Fatalf("part %d of %s is %s at %s", n, counting(v), counting(part), stepsOf(p))
			}
			n++
		}
		if n != len(want) {
			t.Fatalf("%d parts of %s", n, counting(v))
		}
	}
}

func TestWalk(t *testing.T) {
	checkWalk(t, sample())
	for _, v := range leaves() {
		checkWalk(t, v)
	}
	for k := api.Kind(-1); k <= 8; k++ {
		checkWalk(t, junk(k))
	}
	source := rand.New(rand.NewSource(32))
	for range 2000 {
		checkWalk(t, random(source, leaves(), 5))
	}
	var texts []string
	for p := range tree.Walk(sample()) {
		texts = append(texts, tree.PathText(p))
	}
	if want := []string{"", "/a", "/a/0", "/a/1", "/a/1/b", "/c"}; !slices.Equal(texts, want) {
		t.Errorf("the chapter's example: %q", texts)
	}
}

func TestWalkOfNamesThatStandTwice(t *testing.T) {
	v := object(mem("a", num(1)), mem("a", list(num(2))))
	var seen []string
	for p, part := range tree.Walk(v) {
		seen = append(seen, tree.PathText(p)+" "+counting(part))
	}
	if want := []string{" " + counting(v), "/a int 1", "/a [int 2]", "/a/0 int 2"}; !slices.Equal(seen, want) {
		t.Errorf("%q", seen)
	}
}

func TestWalkBrokenOffAndNested(t *testing.T) {
	v := list(list(num(0), list(num(1), num(2))), object(mem("a", num(3)), mem("b", list(num(4)))), num(5))
	want := placesOf(v)
	walk := tree.Walk(v)
	for stop := range want {
		n := 0
		for p := range walk {
			if n == stop {
				if stepsOf(p) != stepsOf(want[n].path) {
					t.Errorf("part %d at %s", n, stepsOf(p))
				}
				break
			}
			n++
		}
		if n != stop {
			t.Errorf("broken off at %d, not at %d", n, stop)
		}
	}
	// Inner ranges over the same function, broken off at any part or none, leave the outer one as it is.
	for stop := range len(want) + 1 {
		n := 0
		for p, part := range walk {
			m := 0
			for q := range walk {
				if m == stop {
					break
				}
				if stepsOf(q) != stepsOf(want[m].path) {
					t.Fatalf("inner part %d at %s", m, stepsOf(q))
				}
				m++
			}
			if m != stop || stepsOf(p) != stepsOf(want[n].path) || whole(part) != whole(want[n].v) {
				t.Fatalf("outer part %d at %s, inner broken off at %d", n, stepsOf(p), m)
			}
			n++
		}
		if n != len(want) {
			t.Errorf("%d parts", n)
		}
	}
}

// Two ranges over one function that go on by turns.
func TestWalkByTurns(t *testing.T) {
	v := chain(6, list(num(1), object(mem("x", num(2)), mem("y", list(num(3), num(4))))))
	want := placesOf(v)
	walk := tree.Walk(v)
	oneNext, oneStop := iter.Pull2(walk)
	twoNext, twoStop := iter.Pull2(walk)
	defer oneStop()
	defer twoStop()
	for i, w := range want {
		p, _, ok := oneNext()
		q, _, also := twoNext()
		if !ok || !also || stepsOf(p) != stepsOf(w.path) || stepsOf(q) != stepsOf(w.path) {
			t.Fatalf("part %d at %s and %s", i, stepsOf(p), stepsOf(q))
		}
	}
	if _, _, ok := oneNext(); ok {
		t.Error("more parts than there are")
	}
}

func TestWalkPathsAreNewMemory(t *testing.T) {
	v := roomy(chain(9, list(num(1), object(mem("x", list(num(2), num(3))), mem("y", num(4))), num(5))))
	was, want := whole(v), placesOf(v)
	var kept [][]api.Step
	for p := range tree.Walk(v) {
		kept = append(kept, p)
	}
	for i, p := range kept {
		if stepsOf(p) != stepsOf(want[i].path) {
			t.Fatalf("path %d was written over: %s", i, stepsOf(p))
		}
	}
	n := 0
	for p := range tree.Walk(v) {
		if stepsOf(p) != stepsOf(want[n].path) {
			t.Fatalf("what was written into an earlier path is seen in path %d: %s", n, stepsOf(p))
		}
		full := p[:cap(p)]
		for i := range full {
			full[i] = name("scribbled")
		}
		_ = append(p, name("scribbled"))
		n++
	}
	if whole(v) != was || !marks(v) {
		t.Error("Walk has changed what it was handed")
	}
}

func TestWalkDeep(t *testing.T) {
	const deep = 3000
	n := 0
	for p, part := range tree.Walk(chain(deep, num(1))) {
		if len(p) != n || n == deep && (part.Int != 1 || tree.Compare(p, chainPath(deep)) != 0) {
			t.Fatalf("part %d has a path of %d steps", n, len(p))
		}
		n++
	}
	if n != deep+1 {
		t.Errorf("%d parts", n)
	}
}
