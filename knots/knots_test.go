package knots_test

import (
	"math/rand"
	"reflect"
	"slices"
	"testing"

	"pergola/knots"
)

// sorted are sets, each sorted, by their smallest nodes.
func sorted(sets [][]int) [][]int {
	for _, set := range sets {
		slices.Sort(set)
	}
	slices.SortFunc(sets, func(a, b []int) int { return slices.Compare(a, b) })
	return sets
}

// slow finds the knots by laying ways together till none is new.
func slow(steps [][]int) [][]int {
	reach := make([][]bool, len(steps))
	for from, list := range steps {
		reach[from] = make([]bool, len(steps))
		for _, to := range list {
			reach[from][to] = true
		}
	}
	for mid := range steps {
		for from := range steps {
			for to := range steps {
				reach[from][to] = reach[from][to] || reach[from][mid] && reach[mid][to]
			}
		}
	}
	var out [][]int
	for node := range steps {
		knot := []int{node}
		for other := range steps {
			if other != node && reach[node][other] && reach[other][node] {
				knot = append(knot, other)
			}
		}
		if node == slices.Min(knot) {
			out = append(out, knot)
		}
	}
	return sorted(out)
}

// checkOrder: no set leads to one ahead of it.
func checkOrder(t *testing.T, steps, sets [][]int) {
	t.Helper()
	rank := make([]int, len(steps))
	for i, set := range sets {
		for _, node := range set {
			rank[node] = i
		}
	}
	for from, list := range steps {
		for _, to := range list {
			if rank[to] < rank[from] {
				t.Errorf("%v: %d leads to %d, which stands ahead of it in %v", steps, from, to, sets)
			}
		}
	}
}

func TestOf(t *testing.T) {
	for _, c := range []struct{ steps, want [][]int }{
		{nil, nil},
		{[][]int{nil}, [][]int{{0}}},
		{[][]int{{0}}, [][]int{{0}}},
		{[][]int{{1}, {2}, nil}, [][]int{{0}, {1}, {2}}},
		{[][]int{{1}, {2}, {0}}, [][]int{{0, 1, 2}}},
		{[][]int{{1, 1}, {0, 2}, {3}, {2, 2}}, [][]int{{0, 1}, {2, 3}}},
		{[][]int{{1, 2}, {0}, {0}, {0, 3}}, [][]int{{0, 1, 2}, {3}}},
	} {
		got := knots.Of(c.steps)
		checkOrder(t, c.steps, got)
		if got := sorted(got); !reflect.DeepEqual(got, c.want) {
			t.Errorf("%v: got %v, want %v", c.steps, got, c.want)
		}
	}
}

func TestMadeByChance(t *testing.T) {
	for seed := range int64(3000) {
		r := rand.New(rand.NewSource(seed))
		steps := make([][]int, 1+r.Intn(12))
		for range r.Intn(2 * len(steps)) {
			from := r.Intn(len(steps))
			steps[from] = append(steps[from], r.Intn(len(steps)))
		}
		var before [][]int
		for _, list := range steps {
			before = append(before, slices.Clone(list))
		}
		got := knots.Of(steps)
		checkOrder(t, steps, got)
		if got, want := sorted(got), slow(steps); !reflect.DeepEqual(got, want) {
			t.Fatalf("%v: got %v, want %v", steps, got, want)
		}
		if !reflect.DeepEqual(steps, before) {
			t.Fatal("the graph was changed")
		}
	}
}

// A way as long as there are nodes, and a ring of it.
func TestLong(t *testing.T) {
	const many = 2000000
	steps := make([][]int, many)
	for i := range many - 1 {
		steps[i] = []int{i + 1}
	}
	if got := len(knots.Of(steps)); got != many {
		t.Error("a way:", got)
	}
	steps[many-1] = []int{0}
	if got := len(knots.Of(steps)); got != 1 {
		t.Error("a ring:", got)
	}
}
