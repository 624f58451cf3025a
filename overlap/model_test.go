package overlap_test

import (
	"slices"
	"testing"

	"pergola/api"
	"pergola/lits"
	"pergola/overlap"
	"pergola/scope"
	"pergola/tree"
	"pergola/typesys"
)

// model is a second way: the chapter's words, one by one, over nodes alone. All pairs of nodes are held against each other again and again, till no pair is new.
type model struct {
	sheet *scope.Sheet
	types *typesys.Types
	nodes []api.Node
	kinds map[string]api.SysKind
	kids  []map[int]bool // of each field node the fields of its Kids
	sets  []map[int]bool // the fields of the selection sets of the document
}

func newModel(s *scope.Sheet) *model {
	m := &model{sheet: s, types: s.Types(), nodes: s.Nodes(), kinds: map[string]api.SysKind{}}
	for _, name := range m.types.Names() {
		def, _ := m.types.Type(name)
		m.kinds[name] = def.Kind
	}
	for def := range s.Document().Defs {
		m.sets = append(m.sets, m.fieldsOf(s.Tops(def)))
	}
	for _, node := range m.nodes {
		fields := map[int]bool{}
		if node.Kind == api.SelField {
			fields = m.fieldsOf(node.Kids)
			m.sets = append(m.sets, fields)
		}
		m.kids = append(m.kids, fields)
	}
	return m
}

// fieldsOf are the fields of a selection set.
func (m *model) fieldsOf(list []int) map[int]bool {
	fields, spread := map[int]bool{}, map[string]bool{}
	var add func(list []int)
	add = func(list []int) {
		for _, i := range list {
			node := m.nodes[i]
			switch node.Kind {
			case api.SelField:
				fields[i] = true
			case api.SelInline:
				add(node.Kids)
			case api.SelSpread:
				if def, ok := m.sheet.Fragment(node.Name); ok && !spread[node.Name] {
					spread[node.Name] = true
					add(m.sheet.Tops(def))
				}
			}
		}
	}
	add(list)
	return fields
}

func (m *model) isObject(name string) bool {
	return m.kinds[name] == api.SysObject
}

func (m *model) isComposite(name string) bool {
	kind := m.kinds[name]
	return kind == api.SysObject || kind == api.SysInterface || kind == api.SysUnion
}

func (m *model) mayMeet(a, b int) bool {
	one, other := m.nodes[a].Parent, m.nodes[b].Parent
	return one == other || !m.isObject(one) || !m.isObject(other)
}

// closure is the smallest set of pairs that has those of the selection sets and with each pair that counts those beneath it.
func (m *model) closure(counts func(a, b int) bool) map[[2]int]bool {
	found := map[[2]int]bool{}
	var fresh [][2]int
	take := func(one, other map[int]bool) {
		for x := range one {
			for y := range other {
				pair := [2]int{x, y}
				if x < y && !found[pair] && m.nodes[x].Key == m.nodes[y].Key {
					found[pair] = true
					fresh = append(fresh, pair)
				}
			}
		}
	}
	for _, set := range m.sets {
		take(set, set)
	}
	for len(fresh) > 0 {
		pair := fresh[0]
		fresh = fresh[1:]
		if counts(pair[0], pair[1]) {
			take(m.kids[pair[0]], m.kids[pair[1]])
			take(m.kids[pair[1]], m.kids[pair[0]])
		}
	}
	return found
}

func (m *model) pairs() map[[2]int]bool { return m.closure(m.mayMeet) }

func (m *model) shapes() map[[2]int]bool {
	return m.closure(func(a, b int) bool { return true })
}

func covers(args, others []api.Arg) bool {
	for _, arg := range args {
		if !slices.ContainsFunc(others, func(o api.Arg) bool { return o.Name == arg.Name && lits.Same(arg.Value, o.Value) }) {
			return false
		}
	}
	return true
}

func (m *model) isField(i int) bool {
	return i >= 0 && i < len(m.nodes) && m.nodes[i].Kind == api.SelField
}

func (m *model) alike(a, b int) bool {
	if !m.isField(a) || !m.isField(b) {
		return false
	}
	one, other := m.nodes[a], m.nodes[b]
	return !m.mayMeet(a, b) || one.Name == other.Name && len(one.Args) == len(other.Args) && covers(one.Args, other.Args) && covers(other.Args, one.Args)
}

func (m *model) oneShape(a, b int) bool {
	if !m.isField(a) || !m.isField(b) {
		return false
	}
	one, other := m.nodes[a], m.nodes[b]
	if !one.Known || !other.Known {
		return true
	}
	return one.Type.Wrap == other.Type.Wrap && (one.Type.Name == other.Type.Name || m.isComposite(one.Type.Name) && m.isComposite(other.Type.Name))
}

func (m *model) check() []api.Fault {
	pairs, shapes := m.pairs(), m.shapes()
	var all []api.Fault
	for b := range m.nodes {
		for a := range b {
			pair := [2]int{a, b}
			if pairs[pair] && !m.alike(a, b) || shapes[pair] && !m.oneShape(a, b) {
				all = append(all, api.Fault{Kind: api.ErrOverlap, Pos: []api.Pos{m.nodes[a].Pos, m.nodes[b].Pos}})
				break
			}
		}
	}
	return tree.Faults(all)
}

// sorted are pairs in their order.
func sorted(set map[[2]int]bool) [][2]int {
	var all [][2]int
	for pair := range set {
		all = append(all, pair)
	}
	slices.SortFunc(all, func(p, q [2]int) int { return slices.Compare(p[:], q[:]) })
	return all
}

// hold holds all calls against the model, and answers the model's faults.
func hold(t *testing.T, src string, types *typesys.Types, doc api.Document) []api.Fault {
	t.Helper()
	s := scope.Lay(types, doc)
	m := newModel(s)
	faults, wantPairs, wantShapes := m.check(), sorted(m.pairs()), sorted(m.shapes())
	for _, copies := range []int{0, 1, 50} {
		if got := overlap.PairsWith(s, copies); !slices.Equal(got, wantPairs) {
			t.Errorf("Pairs of %s with %d copies: got %v, want %v", src, copies, got, wantPairs)
		}
		if got := overlap.ShapesWith(s, copies); !slices.Equal(got, wantShapes) {
			t.Errorf("Shapes of %s with %d copies: got %v, want %v", src, copies, got, wantShapes)
		}
		if got := told(overlap.CheckWith(s, copies)); got != told(faults) {
			t.Errorf("Check of %s with %d copies: got %s, want %s", src, copies, got, told(faults))
		}
	}
	if got := overlap.Pairs(s); !slices.Equal(got, wantPairs) {
		t.Errorf("Pairs of %s: got %v, want %v", src, got, wantPairs)
	}
	if got := overlap.Shapes(s); !slices.Equal(got, wantShapes) {
		t.Errorf("Shapes of %s: got %v, want %v", src, got, wantShapes)
	}
	if got := told(overlap.Check(s)); got != told(faults) {
		t.Errorf("Check of %s: got %s, want %s", src, got, told(faults))
	}
	for a := -1; a <= len(m.nodes); a++ {
		for b := -1; b <= len(m.nodes); b++ {
			if got := overlap.Alike(s, a, b); got != m.alike(a, b) {
				t.Errorf("Alike of %d and %d in %s: got %v", a, b, src, got)
			}
			if got := overlap.OneShape(s, a, b); got != m.oneShape(a, b) {
				t.Errorf("OneShape of %d and %d in %s: got %v", a, b, src, got)
			}
		}
	}
	return faults
}
