package fields_test

import (
	"math/rand"
	"strconv"
	"strings"
	"testing"

	"pergola/api"
	"pergola/typesys"
)

// systems are type systems for documents by chance.
func systems(t testing.TB) []*typesys.Types {
	return []*typesys.Types{sound(t, zoo), sound(t, zoo), sound(t, rootless()), sound(t, chapter)}
}

// P17.1: documents by chance, held against the model; each kind of fault is met often, and so is none.
func TestMadeByChance(t *testing.T) {
	all := systems(t)
	kinds := map[api.Errno]int{}
	clean, few := 0, 0
	for seed := range int64(8000) {
		m := &maker{r: rand.New(rand.NewSource(seed)), types: all[seed%int64(len(all))], slip: []int{4, 20, 100, 1000}[seed/4%4]}
		doc := m.document()
		faults := hold(t, doc, m.types, parse(t, doc))
		for _, f := range faults {
			kinds[f.Kind]++
		}
		if len(faults) == 0 {
			clean++
		} else if len(faults) < 3 {
			few++
		}
		if t.Failed() {
			return
		}
	}
	for kind := api.ErrOpTwice; kind <= api.ErrDirSame; kind++ {
		if kindText(kind)[0] > '9' && kinds[kind] < 300 {
			t.Error("too few of a kind:", kindText(kind), kinds[kind])
		}
	}
	if clean < 300 || few < 1000 {
		t.Error("too few with no or few faults:", clean, few)
	}
}

// P17.1: graphs of fragments by chance, in which just some have top fields: the subscriptions' keys held against the model's.
func TestGraphsOfFragments(t *testing.T) {
	types := sound(t, zoo)
	all, wrong := 0, 0
	for seed := range int64(4000) {
		r := rand.New(rand.NewSource(seed))
		pick := func(words ...string) string { return words[r.Intn(len(words))] }
		names := []string{"A", "B", "C", "D", "E", "F", "G"}[:2+r.Intn(6)]
		spread := func() string {
			return strings.Replace(pick("...? ", "... {...?} ", "k: o {...?} "), "?", pick(names...), 1)
		}
		src := ""
		for _, name := range names {
			src += "fragment " + name + " on Feed {" + pick("", "", "", "k: o {a}", "k: o {a}", "l: o {a}", "k: __typename", "o {...A}") + " " + spread() + pick("", spread()) + "}\n"
		}
		for i := range 3 {
			all++
			src += "subscription S" + strconv.Itoa(i) + " {" + spread() + pick("", "k: t(x: 1)", "...Nope") + "}\n"
		}
		for _, f := range hold(t, src, types, parse(t, src)) {
			if f.Kind == api.ErrOpSingle {
				wrong++
			}
		}
		if t.Failed() {
			return
		}
	}
	if all-wrong < 1000 || wrong < 1000 {
		t.Error("too few of a kind:", all, wrong)
	}
}
