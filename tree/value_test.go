package tree_test

import (
	"math"
	"math/rand"
	"slices"
	"strconv"
	"testing"

	"pergola/api"
	"pergola/tree"
)

// pairing is Same by its own words: it tries all pairings.
func pairing(a, b api.Value) bool {
	switch {
	case a.Kind == api.KindList && b.Kind == api.KindList:
		return slices.EqualFunc(a.Items, b.Items, pairing)
	case a.Kind == api.KindObject && b.Kind == api.KindObject:
		return pairMembers(a.Fields, b.Fields)
	}
	return counting(a) == counting(b)
}

func pairMembers(a, b []api.Member) bool {
	if len(a) == 0 || len(b) == 0 {
		return len(a) == len(b)
	}
	for i, m := range b {
		rest := slices.Concat(b[:i], b[i+1:])
		if m.Name == a[0].Name && pairing(a[0].Value, m.Value) && pairMembers(a[1:], rest) {
			return true
		}
	}
	return false
}

func checkPair(t *testing.T, a, b api.Value) {
	t.Helper()
	if got, want := tree.Equal(a, b), counting(a) == counting(b); got != want {
		t.Errorf("Equal(%s, %s) = %v", counting(a), counting(b), got)
	}
	if got, want := tree.Same(a, b), pairing(a, b); got != want {
		t.Errorf("Same(%s, %s) = %v", counting(a), counting(b), got)
	}
}

func TestEqualAndSameExamples(t *testing.T) {
	ab, ba := object(mem("a", num(1)), mem("b", num(2))), object(mem("b", num(2)), mem("a", num(1)))
	twice := func(x, y int64) api.Value { return object(mem("a", num(x)), mem("a", num(y))) }
	cases := []struct {
		a, b        api.Value
		equal, same bool
	}{
		{ab, ba, false, true}, {ab, ab, true, true}, {twice(1, 2), twice(2, 1), false, true}, {twice(1, 1), twice(1, 2), false, false}, {twice(1, 2), twice(1, 1), false, false},
		{num(1), float(1), false, false}, {float(0), float(minusZero), false, false}, {float(math.NaN()), float(math.Float64frombits(0xFFF8000000000001)), true, true},
		{list(ab), list(ba), false, true}, {list(num(1), num(2)), list(num(2), num(1)), false, false}, {list(), object(), false, false}, {list(), api.Value{}, false, false},
		{api.Value{Kind: 9}, api.Value{}, true, true}, {api.Value{Kind: -1}, api.Value{Kind: 8, Text: "x"}, true, true}, {api.Value{Kind: 8}, text(""), false, false},
		{handle("T", "x"), handle("T", "x"), true, true}, {handle("T", "x"), handle("U", "x"), false, false}, {handle("T", "x"), text("x"), false, false}, {handle("ab", "c"), handle("a", "bc"), false, false},
		{list(list()), list(), false, false}, {list(api.Value{}), list(), false, false}, {list(api.Value{}), list(api.Value{}, api.Value{}), false, false},
		{object(mem("a", num(1))), object(mem("A", num(1))), false, false}, {object(mem("a", num(1))), object(mem("a", num(1)), mem("b", num(1))), false, false}, {text("a"), text("A"), false, false}, {text("\xff"), text("\xfe"), false, false},
		{object(mem("x", ab), mem("y", ba)), object(mem("y", ab), mem("x", ba)), false, true}, {object(mem("x", list(num(1), num(2)))), object(mem("x", list(num(2), num(1)))), false, false},
	}
	for i, c := range cases {
		for _, p := range [][2]api.Value{{c.a, c.b}, {c.b, c.a}} {
			if tree.Equal(p[0], p[1]) != c.equal || tree.Same(p[0], p[1]) != c.same {
				t.Errorf("pair %d: Equal %v, Same %v", i, tree.Equal(p[0], p[1]), tree.Same(p[0], p[1]))
			}
		}
	}
}

func TestEqualAndSameOfLeaves(t *testing.T) {
	for _, a := range leaves() {
		for _, b := range leaves() {
			checkPair(t, a, b)
			checkPair(t, list(a), list(b))
			checkPair(t, object(mem("x", a), mem("x", b)), object(mem("x", b), mem("x", a)))
		}
	}
}

func TestEqualAndSameOfRandomValues(t *testing.T) {
	source := rand.New(rand.NewSource(11))
	few := []api.Value{num(1), float(1), float(minusZero), float(0), {}, {Kind: 12, Int: 4}, text("a")}
	same := 0
	for range 60000 {
		a, b := random(source, few, 3), random(source, few, 3)
		checkPair(t, a, b)
		shuffled := shuffle(source, a)
		checkPair(t, a, shuffled)
		if !tree.Equal(a, shuffled) {
			same++
		}
	}
	if same < 1000 {
		t.Errorf("only %d pairs are unlike by the order of members alone", same)
	}
}

// shuffle is a with the members of all its objects in some other order.
func shuffle(source *rand.Rand, v api.Value) api.Value {
	out := tree.Copy(v)
	for i, x := range out.Items {
		out.Items[i] = shuffle(source, x)
	}
	for i, m := range out.Fields {
		out.Fields[i].Value = shuffle(source, m.Value)
	}
	source.Shuffle(len(out.Fields), func(i, j int) { out.Fields[i], out.Fields[j] = out.Fields[j], out.Fields[i] })
	return out
}

// Two objects of very many members, all of one name or of names of their own, in other orders.
func TestSameOfWideObjects(t *testing.T) {
	const wide = 50000
	for _, names := range []int{1, 2, wide} {
		var a, b []api.Member
		for i := range wide {
			a = append(a, mem(strconv.Itoa(i%names), object(mem("v", num(int64(i))))))
		}
		b = slices.Clone(a)
		slices.Reverse(b)
		if !tree.Same(object(a...), object(b...)) {
			t.Errorf("%d names: not the same", names)
		}
		b[wide/2].Value = object(mem("v", num(-1)))
		if tree.Same(object(a...), object(b...)) {
			t.Errorf("%d names: the same, but one value", names)
		}
	}
}

// Objects whose names stand twice, all the way down: to try all pairings would never end.
func TestSameOfTwinsAllTheWayDown(t *testing.T) {
	build := func(depth int, swapped bool, leaf int64) api.Value {
		a, b := num(leaf), num(2)
		for range depth {
			first, second := a, b
			if swapped {
				first, second = b, a
			}
			a, b = object(mem("x", first), mem("x", second)), object(mem("x", b), mem("x", b))
		}
		return object(mem("x", a), mem("x", b))
	}
	if a := build(12, false, 1); !tree.Same(a, build(12, true, 1)) || tree.Same(a, build(12, true, 3)) {
		t.Error("twins all the way down")
	}
}

func TestEqualAndSameLeaveWhatIsHandedIn(t *testing.T) {
	a := roomy(object(mem("b", list(object(mem("z", num(1)), mem("y", num(2))))), mem("a", num(1))))
	b := roomy(object(mem("a", num(1)), mem("b", list(object(mem("y", num(2)), mem("z", num(1)))))))
	was, wasB := whole(a), whole(b)
	if !tree.Same(a, b) || tree.Equal(a, b) {
		t.Error("Same, not Equal")
	}
	if whole(a) != was || whole(b) != wasB || !marks(a) || !marks(b) {
		t.Error("Same or Equal has changed what it was handed")
	}
}

func TestCopyKeepsEveryField(t *testing.T) {
	values := leaves()
	for k := api.Kind(-2); k <= 9; k++ {
		inner := junk(k)
		values = append(values, inner, list(inner), object(mem("a", inner), mem("a", inner)), api.Value{Kind: k, Items: []api.Value{inner}, Fields: []api.Member{mem("q", inner)}})
	}
	source := rand.New(rand.NewSource(12))
	for range 2000 {
		values = append(values, random(source, values[:30], 4))
	}
	for _, v := range values {
		v = roomy(v)
		was := whole(v)
		c := tree.Copy(v)
		if whole(c) != was {
			t.Fatalf("Copy of %s is %s", was, whole(c))
		}
		if !tree.Equal(c, v) {
			t.Errorf("Copy of %s isn't Equal", was)
		}
		scribble(c)
		if whole(v) != was || !marks(v) {
			t.Fatalf("Copy of %s shares memory with it, or changes it", was)
		}
	}
}

// The lists of one copy share no memory with one another either, even where those of the value do.
func TestCopySharesNothingWithin(t *testing.T) {
	shared := []api.Value{num(1), num(2)}
	c := tree.Copy(list(list(shared...), list(shared...), api.Value{Kind: api.KindInt, Items: shared}))
	c.Items[0].Items[0] = text("new")
	if c.Items[1].Items[0].Int != 1 || c.Items[2].Items[0].Int != 1 {
		t.Error("two lists of a copy are one")
	}
}

// partsOf are the parts of a value, in order, without recursion.
func partsOf(v api.Value) []api.Value {
	var out []api.Value
	for todo := []api.Value{v}; len(todo) > 0; {
		v, todo = todo[len(todo)-1], todo[:len(todo)-1]
		out = append(out, v)
		if v.Kind == api.KindList {
			for i := len(v.Items) - 1; i >= 0; i-- {
				todo = append(todo, v.Items[i])
			}
		}
		if v.Kind == api.KindObject {
			for i := len(v.Fields) - 1; i >= 0; i-- {
				todo = append(todo, v.Fields[i].Value)
			}
		}
	}
	return out
}

// levels is Depth, level by level.
func levels(v api.Value) int {
	depth := 0
	for level := []api.Value{v}; ; {
		var next []api.Value
		deeper := false
		for _, x := range level {
			switch x.Kind {
			case api.KindList:
				deeper = true
				next = append(next, x.Items...)
			case api.KindObject:
				deeper = true
				for _, m := range x.Fields {
					next = append(next, m.Value)
				}
			}
		}
		if !deeper {
			return depth
		}
		depth++
		level = next
	}
}

func TestCountAndDepthExamples(t *testing.T) {
	cases := []struct {
		v            api.Value
		count, depth int
	}{
		{sample(), 6, 3}, {num(1), 1, 0}, {api.Value{}, 1, 0}, {handle("T", "x"), 1, 0}, {list(), 1, 1}, {object(), 1, 1}, {list(list(num(1)), num(2)), 4, 2}, {list(num(1), list()), 3, 2},
		{object(mem("a", num(1)), mem("a", num(2))), 3, 1}, {junk(api.KindInt), 1, 0}, {junk(api.KindHandle), 1, 0}, {junk(9), 1, 0}, {junk(-1), 1, 0}, {junk(api.KindList), 4, 2}, {junk(api.KindObject), 3, 1},
	}
	for _, c := range cases {
		if tree.Count(c.v) != c.count || tree.Depth(c.v) != c.depth {
			t.Errorf("%s: Count %d, Depth %d", counting(c.v), tree.Count(c.v), tree.Depth(c.v))
		}
	}
}

func TestCountAndDepthOfRandomValues(t *testing.T) {
	source := rand.New(rand.NewSource(13))
	for range 5000 {
		v := random(source, leaves(), 5)
		if tree.Count(v) != len(partsOf(v)) || tree.Depth(v) != levels(v) {
			t.Fatalf("%s: Count %d, Depth %d", counting(v), tree.Count(v), tree.Depth(v))
		}
	}
}

func TestDeepValues(t *testing.T) {
	a, b, c := chain(nested-1, num(1)), chain(nested-1, num(1)), chain(nested-1, num(2))
	if !tree.Equal(a, b) || tree.Equal(a, c) || !tree.Same(a, b) || tree.Same(a, c) {
		t.Error("Equal, Same")
	}
	if tree.Count(a) != nested || tree.Depth(a) != nested-1 {
		t.Errorf("Count %d, Depth %d", tree.Count(a), tree.Depth(a))
	}
	d := tree.Copy(a)
	if !tree.Equal(a, d) {
		t.Error("Copy")
	}
}
