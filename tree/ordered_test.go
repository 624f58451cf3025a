package tree_test

import (
	"math"
	"math/rand"
	"slices"
	"strconv"
	"testing"

	"pergola/api"
	"pergola/tree"
)

// pair is an entry of the plain table that the ordered one is held against.
type pair struct {
	key   string
	value int
}

func pairsOf(o *tree.Ordered[string, int]) []pair {
	var out []pair
	for k, v := range o.All() {
		out = append(out, pair{k, v})
	}
	return out
}

// checkTable holds all that can be asked of a table against the entries that it must have.
func checkTable(t *testing.T, o *tree.Ordered[string, int], want []pair, keys []string) {
	t.Helper()
	if o.Len() != len(want) {
		t.Fatalf("Len = %d, want %d", o.Len(), len(want))
	}
	if got := pairsOf(o); !slices.Equal(got, want) {
		t.Fatalf("All = %v, want %v", got, want)
	}
	got := o.Keys()
	for i := -2; i <= len(want)+2; i++ {
		k, v, ok := o.At(i)
		if i < 0 || i >= len(want) {
			if k != "" || v != 0 || ok {
				t.Fatalf("At(%d) of %d = %q, %d, %v", i, len(want), k, v, ok)
			}
			continue
		}
		if k != want[i].key || v != want[i].value || !ok || len(got) != len(want) || got[i] != k {
			t.Fatalf("At(%d) = %q, %d, %v; Keys = %q; want %v", i, k, v, ok, got, want)
		}
	}
	for _, k := range keys {
		i := slices.IndexFunc(want, func(p pair) bool { return p.key == k })
		v, ok := o.Get(k)
		if ok != (i >= 0) || ok && v != want[i].value || !ok && v != 0 {
			t.Fatalf("Get(%q) = %d, %v; want %v", k, v, ok, want)
		}
	}
}

func TestOrderedAgainstPlainTable(t *testing.T) {
	source := rand.New(rand.NewSource(3))
	keys := []string{"", "a", "b", "c", "d", "e", "f", "g", "h"}
	for range 300 {
		o := tree.NewOrdered[string, int]()
		var want []pair
		for step := range 60 {
			k := keys[source.Intn(len(keys))]
			i := slices.IndexFunc(want, func(p pair) bool { return p.key == k })
			if source.Intn(5) < 3 {
				if o.Put(k, step+1) != (i < 0) {
					t.Fatalf("Put(%q) into %v", k, want)
				}
				if i < 0 {
					want = append(want, pair{k, step + 1})
				} else {
					want[i].value = step + 1
				}
			} else {
				if o.Drop(k) != (i >= 0) {
					t.Fatalf("Drop(%q) from %v", k, want)
				}
				if i >= 0 {
					want = slices.Delete(want, i, i+1)
				}
			}
			checkTable(t, o, want, keys)
		}
	}
}

func TestOrderedTablesAreApart(t *testing.T) {
	a, b := tree.NewOrdered[string, int](), tree.NewOrdered[string, int]()
	if a == nil || b == nil || a == b {
		t.Fatal("NewOrdered answers one table twice, or none")
	}
	checkTable(t, a, nil, []string{"", "x"})
	a.Put("x", 1)
	checkTable(t, a, []pair{{"x", 1}}, []string{"", "x"})
	checkTable(t, b, nil, []string{"", "x"})
}

func TestOrderedZeroValue(t *testing.T) {
	var o tree.Ordered[string, int]
	checkTable(t, &o, nil, []string{"", "x"})
	if o.Drop("x") || !o.Put("x", 1) || o.Put("x", 2) || !o.Put("", 3) {
		t.Error("the zero value is no table")
	}
	checkTable(t, &o, []pair{{"x", 2}, {"", 3}}, []string{"", "x", "y"})
}

func TestOrderedNil(t *testing.T) {
	var o *tree.Ordered[string, int]
	for range 2 {
		checkTable(t, o, nil, []string{"", "x"})
		if o.Put("x", 1) || o.Drop("x") || o.Put("", 0) || o.Drop("") {
			t.Error("a nil table takes an entry, or drops one")
		}
	}
	if o.All() == nil {
		t.Error("All of a nil table is nil")
	}
}

func TestOrderedKeysOfManyKinds(t *testing.T) {
	steps := tree.NewOrdered[api.Step, string]()
	if !steps.Put(name("x"), "a") || !steps.Put(item(0), "b") || steps.Put(api.Step{Name: "x"}, "c") || !steps.Put(api.Step{Name: "x", Index: 1}, "d") {
		t.Error("structs are keys by ==")
	}
	if v, ok := steps.Get(name("x")); v != "c" || !ok {
		t.Errorf("Get = %q, %v", v, ok)
	}
	arrays := tree.NewOrdered[[2]string, int]()
	if !arrays.Put([2]string{"a", "b"}, 1) || !arrays.Put([2]string{"b", "a"}, 2) || !arrays.Drop([2]string{"a", "b"}) || arrays.Len() != 1 {
		t.Error("arrays are keys by ==")
	}
	floats := tree.NewOrdered[float64, int]()
	if !floats.Put(0, 1) || floats.Put(minusZero, 2) || floats.Len() != 1 {
		t.Error("0 and -0 are one key by ==")
	}
	if k, v, _ := floats.At(0); math.Signbit(k) || v != 2 {
		t.Errorf("Put of a key that is there lays another key: %v, %d", k, v)
	}
	one, two := new(int), new(int)
	pointers := tree.NewOrdered[*int, int]()
	if !pointers.Put(one, 1) || !pointers.Put(two, 2) || pointers.Put(one, 3) || !pointers.Put(nil, 4) {
		t.Error("pointers are keys by ==")
	}
	var k *int
	if v, ok := pointers.Get(k); v != 4 || !ok {
		t.Error("a nil pointer is a key")
	}
}

// A table in which no such key stands keeps its promises when it is asked for one.
func TestOrderedAskedForKeysThatCannotBeHeld(t *testing.T) {
	o := tree.NewOrdered[any, int]()
	for _, full := range []bool{false, true} {
		if full {
			o.Put("a", 1)
			o.Put(2, 2)
		}
		for _, k := range []any{[]int{1}, map[string]int{}, func() {}, math.NaN(), struct{ x any }{[]int{}}, [1]any{math.NaN()}} {
			if v, ok := o.Get(k); v != 0 || ok || o.Drop(k) {
				t.Errorf("%v is found", k)
			}
		}
	}
	if o.Len() != 2 || !o.Drop("a") || !o.Drop(2) || o.Len() != 0 {
		t.Error("the table has changed")
	}
}

func TestOrderedKeysAreNewMemory(t *testing.T) {
	o := tree.NewOrdered[string, int]()
	o.Put("a", 1)
	o.Put("b", 2)
	first := o.Keys()
	full := first[:cap(first)]
	for i := range full {
		full[i] = "scribbled"
	}
	o.Put("c", 3)
	checkTable(t, o, []pair{{"a", 1}, {"b", 2}, {"c", 3}}, []string{"a", "b", "c", "scribbled"})
}

func TestOrderedRangeSeesItsBeginning(t *testing.T) {
	keys := []string{"a", "b", "c", "d"}
	whole := []pair{{"a", 1}, {"b", 2}, {"c", 3}, {"d", 4}}
	// What is done to the table at the first entry, and what it holds then.
	cases := []struct {
		name string
		do   func(o *tree.Ordered[string, int])
		then []pair
	}{
		{"put", func(o *tree.Ordered[string, int]) { o.Put("e", 5) }, append(slices.Clone(whole), pair{"e", 5})},
		{"put many", func(o *tree.Ordered[string, int]) {
			for i := range 100 {
				o.Put("e", i)
			}
		}, append(slices.Clone(whole), pair{"e", 99})},
		{"change", func(o *tree.Ordered[string, int]) { o.Put("c", 9); o.Put("a", 8) }, []pair{{"a", 8}, {"b", 2}, {"c", 9}, {"d", 4}}},
		{"drop ahead", func(o *tree.Ordered[string, int]) { o.Drop("a") }, whole[1:]},
		{"drop behind", func(o *tree.Ordered[string, int]) { o.Drop("d"); o.Drop("b") }, []pair{{"a", 1}, {"c", 3}}},
		{"drop and put again", func(o *tree.Ordered[string, int]) { o.Drop("b"); o.Put("b", 7) }, []pair{{"a", 1}, {"c", 3}, {"d", 4}, {"b", 7}}},
		{"drop all", func(o *tree.Ordered[string, int]) {
			for _, k := range keys {
				o.Drop(k)
			}
		}, nil},
		{"all anew", func(o *tree.Ordered[string, int]) {
			for _, k := range keys {
				o.Drop(k)
				o.Put(k, 6)
			}
		}, []pair{{"a", 6}, {"b", 6}, {"c", 6}, {"d", 6}}},
	}
	for _, c := range cases {
		o := tree.NewOrdered[string, int]()
		for _, p := range whole {
			o.Put(p.key, p.value)
		}
		all := o.All()
		var seen []pair
		for k, v := range all {
			if len(seen) == 0 {
				c.do(o)
			}
			seen = append(seen, pair{k, v})
		}
		if !slices.Equal(seen, whole) {
			t.Errorf("%s: seen %v", c.name, seen)
		}
		checkTable(t, o, c.then, append(keys, "e"))
		// The same function ranged over again begins anew, with what stands there now.
		seen = nil
		for k, v := range all {
			seen = append(seen, pair{k, v})
		}
		if !slices.Equal(seen, c.then) {
			t.Errorf("%s: the second range has seen %v", c.name, seen)
		}
	}
}

func TestOrderedAllIsTakenAheadOfEntries(t *testing.T) {
	var o tree.Ordered[string, int]
	all := o.All()
	o.Put("late", 1)
	n := 0
	for k, v := range all {
		if k != "late" || v != 1 {
			t.Errorf("%q, %d", k, v)
		}
		n++
	}
	if n != 1 {
		t.Errorf("%d entries", n)
	}
}

func TestOrderedRangeBrokenOffAndNested(t *testing.T) {
	o := tree.NewOrdered[int, int]()
	for i := range 5 {
		o.Put(i, i*i)
	}
	all := o.All()
	for stop := range 5 {
		n := 0
		for k := range all {
			if k != n {
				t.Fatalf("entry %d is %d", n, k)
			}
			if n == stop {
				break
			}
			n++
		}
		if n != stop {
			t.Fatalf("broken off at %d, not at %d", n, stop)
		}
	}
	var seen []int
	for k := range all {
		for l, v := range all {
			if l > k {
				break
			}
			seen = append(seen, 100*k+v)
		}
	}
	if want := []int{0, 100, 101, 200, 201, 204, 300, 301, 304, 309, 400, 401, 404, 409, 416}; !slices.Equal(seen, want) {
		t.Errorf("nested: %v", seen)
	}
}

func TestOrderedHoldsListsAsTheyAre(t *testing.T) {
	o := tree.NewOrdered[string, []int]()
	mine := []int{1, 2, 3}
	o.Put("a", mine)
	mine[0] = 10
	got, _ := o.Get("a")
	if got[0] != 10 {
		t.Error("the table holds another list")
	}
	got[1] = 20
	_, at, _ := o.At(0)
	at[2] = 30
	for _, v := range o.All() {
		if &v[0] != &mine[0] || len(v) != 3 || cap(v) != cap(mine) {
			t.Error("All hands out another list")
		}
	}
	if !slices.Equal(mine, []int{10, 20, 30}) {
		t.Errorf("mine is %v", mine)
	}
	o.Put("b", nil)
	if v, ok := o.Get("b"); v != nil || !ok {
		t.Error("a nil list is a value")
	}
}

// A table of many entries is emptied from the front, from the back and from the middle, and kept in order all along.
func TestOrderedOfManyEntries(t *testing.T) {
	const many = 50000
	orders := []struct {
		name string
		key  func(i int) int
	}{
		{"front", func(i int) int { return i }},
		{"back", func(i int) int { return many - 1 - i }},
		{"middle", func(i int) int { return (i*7919 + many/2) % many }},
	}
	for _, c := range orders {
		o := tree.NewOrdered[string, int]()
		for i := range many {
			o.Put(strconv.Itoa(i), i)
		}
		for i := range many {
			if k := c.key(i); !o.Drop(strconv.Itoa(k)) {
				t.Fatalf("%s: %d is gone", c.name, k)
			}
			if _, first, ok := o.At(0); ok != (i < many-1) || i == many/2 && !slices.IsSorted(valuesOf(o)) || i == 0 && c.name == "back" && first != 0 {
				t.Fatalf("%s: behind %d drops the first is %d, %v", c.name, i+1, first, ok)
			}
		}
		if o.Len() != 0 || len(o.Keys()) != 0 {
			t.Errorf("%s: %d entries are left", c.name, o.Len())
		}
	}
}

func valuesOf(o *tree.Ordered[string, int]) []int {
	var out []int
	for _, v := range o.All() {
		out = append(out, v)
	}
	return out
}
