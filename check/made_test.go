package check_test

import (
	"math/rand"
	"strconv"
	"strings"
	"testing"

	"pergola/api"
	"pergola/check"
)

// P21.1, P21.2: documents by chance, held against the models; each kind of fault is met often, and so is none.
func TestMadeByChance(t *testing.T) {
	types := sound(t, zoo)
	kinds := map[api.Errno]int{}
	clean, few, unknown := 0, 0, 0
	for seed := range int64(6000) {
		m := &maker{r: rand.New(rand.NewSource(seed)), types: types, slip: []int{10, 20, 60, 1000}[seed%4]}
		src := m.document()
		doc := parse(t, src)
		faults := hold(t, src, types, doc)
		for _, f := range faults {
			kinds[f.Kind]++
		}
		switch {
		case len(faults) == 0:
			clean++
			if strings.Contains(depths(doc), "-") {
				t.Errorf("%s: valid, but a depth is not known", src)
			}
		case len(faults) < 4:
			few++
		}
		if strings.Contains(depths(doc), "-") {
			unknown++
		}
		if t.Failed() {
			return
		}
	}
	for kind := api.ErrOpTwice; kind <= api.ErrVarPlace; kind++ {
		if kinds[kind] < 30 {
			t.Error("too few of a kind:", kindText(kind), kinds[kind])
		}
	}
	if clean < 1000 || few < 1000 || unknown < 500 {
		t.Error("too few with no or few faults, or without a depth:", clean, few, unknown)
	}
}

// body is selections by chance: fields, some of them with braces, inline fragments, and spreads of fragments.
func body(r *rand.Rand, frags, depth int) string {
	out := ""
	for range 1 + r.Intn(2) {
		choice := r.Intn(8)
		switch {
		case choice < 2 && depth > 0:
			out += "a {" + body(r, frags, depth-1) + "} "
		case choice < 4 && depth > 0:
			out += []string{"... {", "... on T {"}[r.Intn(2)] + body(r, frags, depth-1) + "} "
		case choice < 7 && frags > 0:
			out += "...F" + strconv.Itoa(r.Intn(frags)) + " "
		default:
			out += "b "
		}
	}
	return out
}

// P21.2: graphs of fragments by chance; those without a ring, and those with rings, names that stand twice and names of no fragment.
func TestDeepOfGraphs(t *testing.T) {
	known, unknown, deepest := 0, 0, 0
	for seed := range int64(20000) {
		r := rand.New(rand.NewSource(seed))
		frags := 1 + r.Intn(8)
		isTame := seed%2 == 0
		var defs []string
		for i := range frags {
			reach := i // so that each spreads those ahead of it
			if !isTame {
				reach = frags + r.Intn(2)
			}
			defs = append(defs, "fragment F"+strconv.Itoa(i)+" on T {"+body(r, reach, 3)+"}")
		}
		defs = append(defs, "query F0 {"+body(r, frags, 3)+"}")
		if !isTame && r.Intn(2) == 0 {
			defs = append(defs, "fragment F"+strconv.Itoa(r.Intn(frags))+" on T {"+body(r, frags, 2)+"}")
		}
		r.Shuffle(len(defs), func(i, k int) { defs[i], defs[k] = defs[k], defs[i] })
		src := strings.Join(defs, "\n")
		doc := parse(t, src)
		holdDeep(t, src, doc)
		for def := range doc.Defs {
			n, ok := check.Deep(doc, def)
			deepest = max(deepest, n)
			if ok {
				known++
			} else {
				unknown++
			}
			if isTame && !ok {
				t.Error("a depth is not known:", src)
			}
		}
		if t.Failed() {
			return
		}
	}
	if known < 20000 || unknown < 20000 || deepest < 12 {
		t.Error("too few:", known, unknown, deepest)
	}
}

// P21.2: each graph of three fragments, each of which spreads each of them not at all, or at its top, or beneath a field.
func TestDeepOfAllSmallGraphs(t *testing.T) {
	const graphs = 19683 // 3 to the 9
	for choice := range graphs {
		doc := api.Document{Defs: []api.Def{{Kind: api.DefQuery, Sels: []api.Sel{spreadOf("B")}}}}
		rest := choice
		for _, name := range []string{"A", "B", "C"} {
			def := api.Def{Kind: api.DefFragment, Name: name, Sels: []api.Sel{fieldOf()}}
			for _, target := range []string{"A", "B", "C"} {
				switch rest % 3 {
				case 1:
					def.Sels = append(def.Sels, spreadOf(target))
				case 2:
					def.Sels = append(def.Sels, fieldOf(spreadOf(target)))
				}
				rest /= 3
			}
			doc.Defs = append(doc.Defs, def)
		}
		holdDeep(t, strconv.Itoa(choice), doc)
		if t.Failed() {
			return
		}
	}
}

func spreadOf(name string) api.Sel {
	return api.Sel{Kind: api.SelSpread, Name: name}
}

func fieldOf(sels ...api.Sel) api.Sel {
	return api.Sel{Kind: api.SelField, Name: "a", Sels: sels}
}
