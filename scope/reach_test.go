package scope_test

import (
	"math/rand"
	"strconv"
	"strings"
	"testing"

	"pergola/scope"
)

func checkFragment(t testing.TB, s *scope.Sheet, name string, want int, wantOK bool) {
	t.Helper()
	if got, ok := s.Fragment(name); got != want || ok != wantOK {
		t.Errorf("Fragment %q: %d, %v", name, got, ok)
	}
}

// P16.3: operations bear no fragment's name; the first of several counts; names are told apart by their letters.
func TestFragment(t *testing.T) {
	s := lay(t, chapter, "query A {a} fragment B on Query {a} mutation C {a} fragment A on Query {a} fragment B on U {a} fragment b on X {a} {a}")
	checkFragment(t, s, "A", 3, true)
	checkFragment(t, s, "B", 1, true)
	checkFragment(t, s, "b", 5, true)
	for _, name := range []string{"C", "", "a", "Query", "U", "X", "AB", "A ", "\xff"} {
		checkFragment(t, s, name, 0, false)
	}
	s = lay(t, chapter, "fragment F on Query {a}")
	checkFragment(t, s, "F", 0, true)
	checkFragment(t, s, "G", 0, false)
}

// P16.4.
func TestReach(t *testing.T) {
	for _, c := range []struct {
		doc  string
		want [][]int
	}{
		{"{a}", [][]int{nil}},
		{"{...X}", [][]int{nil}},
		{"{...F} fragment F on Query {a}", [][]int{{1}, nil}},
		{"fragment F on Query {a} {...F}", [][]int{nil, {0}}},
		{"{a} fragment F on Query {...F}", [][]int{nil, {1}}},
		{"{...F ...F} fragment F on Query {...G ...G} fragment G on Query {a ...X}", [][]int{{1, 2}, {2}, nil}},
		{"fragment C on Query {a} {...A} fragment B on Query {...C} fragment A on Query {...B}", [][]int{nil, {0, 2, 3}, {0}, {0, 2}}},
		// at any depth of the braces, whether the scope is known or not
		{"{q {q {nix {...A}} ... {... on X {... on Query {...B}}}}} fragment A on Nope {a} fragment B on I {u {...C}} fragment C on S {z}", [][]int{{1, 2, 3}, nil, {3}, nil}},
		// of two of one name only the first is reached, but both reach
		{"{...A} fragment A on Query {...B} fragment B on Query {a} fragment A on Query {...C} fragment C on Query {...A}", [][]int{{1, 2}, {2}, nil, {1, 2, 4}, {1, 2}}},
		// an operation's name is no fragment's
		{"query A {...A ...B} query B {...A} fragment A on Query {a}", [][]int{{2}, {2}, nil}},
		// rings that are hung together
		{"fragment A on Query {...B} fragment B on Query {...A ...C} fragment C on Query {...D} fragment D on Query {...C} fragment E on Query {...A}", [][]int{{0, 1, 2, 3}, {0, 1, 2, 3}, {2, 3}, {2, 3}, {0, 1, 2, 3}}},
		// names that a spread's argument or a field bears are none
		{"{A q(s: B) {C: a} a @D ...on E {a}} fragment A on Query {a} fragment B on Query {a} fragment C on Query {a} fragment D on Query {a} fragment E on Query {a}", [][]int{nil, nil, nil, nil, nil, nil}},
	} {
		s := lay(t, chapter, c.doc)
		for def, want := range c.want {
			alike(t, "Reach of "+strconv.Itoa(def)+" in "+c.doc, s.Reach(def), want)
		}
		for _, def := range []int{-1, len(c.want), len(c.want) + 7, -1 << 63, 1<<63 - 1} {
			alike(t, "Reach of no definition", s.Reach(def), []int(nil))
		}
	}
}

// P16.4: graphs by chance, held against the closure that pairs of pairs make.
func TestReachByChance(t *testing.T) {
	for seed := range int64(300) {
		r := rand.New(rand.NewSource(seed))
		n := 1 + r.Intn(9)
		edges := make([][]bool, n)
		var src strings.Builder
		for i := range n {
			edges[i] = make([]bool, n)
			src.WriteString("fragment F" + strconv.Itoa(i) + " on Query {a ")
			for range r.Intn(3) {
				to := r.Intn(n)
				edges[i][to] = true
				src.WriteString([]string{"...F", "q {a ...F", "... {...F"}[i%3] + strconv.Itoa(to) + []string{" ", "} ", "} "}[i%3])
			}
			src.WriteString("}")
		}
		for k := range n {
			for i := range n {
				for j := range n {
					edges[i][j] = edges[i][j] || edges[i][k] && edges[k][j]
				}
			}
		}
		s := lay(t, chapter, src.String())
		for i := range n {
			var want []int
			for j := range n {
				if edges[i][j] {
					want = append(want, j)
				}
			}
			alike(t, "Reach of "+strconv.Itoa(i)+" in "+src.String(), s.Reach(i), want)
		}
	}
}
