package vars_test

import (
	"math/rand"
	"strconv"
	"strings"
	"testing"

	"pergola/api"
)

// P20.1: documents by chance, held against the model; each kind of fault is met often, and so is none.
func TestMadeByChance(t *testing.T) {
	types := sound(t, zoo)
	kinds := map[api.Errno]int{}
	clean, few := 0, 0
	for seed := range int64(8000) {
		m := &maker{r: rand.New(rand.NewSource(seed)), types: types, slip: []int{3, 10, 30, 300}[seed%4]}
		src := m.document()
		faults := hold(t, src, types, parse(t, src))
		for _, f := range faults {
			kinds[f.Kind]++
		}
		switch {
		case len(faults) == 0 && strings.Count(src, "$") > 4:
			clean++
		case len(faults) > 0 && len(faults) < 3:
			few++
		}
		if t.Failed() {
			return
		}
	}
	for kind := api.ErrVarTwice; kind <= api.ErrVarPlace; kind++ {
		if kinds[kind] < 500 {
			t.Error("too few of a kind:", kindText(kind), kinds[kind])
		}
	}
	if clean < 500 || few < 800 {
		t.Error("too few with no or few faults:", clean, few)
	}
}

// graph writes a document: some operations and fragments that spread one another by chance, each with some of many uses, and operations with some of many variables.
func graph(r *rand.Rand, names, frags, ops int) string {
	pick := func(n int) string { return strconv.Itoa(r.Intn(n)) }
	var out []string
	body := func() string {
		text := "{x "
		for range r.Intn(4) {
			text += "f(" + []string{"i", "n", "d", "l", "nope"}[r.Intn(5)] + ": $v" + pick(names) + ") "
		}
		for range r.Intn(3) {
			text += strings.Replace([]string{"...F# ", "self(b: true) {...F#} "}[r.Intn(2)], "#", pick(frags), 1)
		}
		return text + "}"
	}
	for i := range frags {
		out = append(out, "fragment F"+strconv.Itoa(i)+" on Root "+body())
	}
	for range r.Intn(3) {
		out = append(out, "fragment F"+pick(frags)+" on Root "+body())
	}
	for range ops {
		variables := "$w: Int "
		for range r.Intn(3 * names) {
			variables += "$v" + pick(names) + ": " + []string{"Int", "Int!", "[Int]", "Int = 1", "Nope"}[r.Intn(5)] + " "
		}
		out = append(out, "query ("+variables+") "+body())
	}
	r.Shuffle(len(out), func(i, k int) { out[i], out[k] = out[k], out[i] })
	return strings.Join(out, "\n")
}

// P20.1: graphs of fragments by chance, with rings and names that stand twice; and greater ones, with hundreds of uses that are unlike.
func TestGraphsOfFragments(t *testing.T) {
	types := sound(t, zoo)
	for seed := range int64(2500) {
		r := rand.New(rand.NewSource(seed))
		names, frags, ops := 1+r.Intn(5), 1+r.Intn(9), 1+r.Intn(4)
		if seed%100 == 0 {
			names, frags, ops = 40+r.Intn(100), 100+r.Intn(60), 20
		}
		src := graph(r, names, frags, ops)
		hold(t, src, types, parse(t, src))
		if t.Failed() {
			return
		}
	}
}

// P20.1: each graph of three fragments, each of which has a use of its own, and an operation that spreads the first.
func TestAllSmallGraphs(t *testing.T) {
	types := sound(t, zoo)
	names := []string{"A", "B", "C"}
	for choice := range 1 << 9 {
		src := "query {...A}\nquery ($A: Int $B: Int $C: Int) {...A}\n"
		for i, name := range names {
			body := "f(i: $" + name + ")"
			for k, target := range names {
				if choice>>(3*i+k)&1 == 1 {
					body += " ..." + target
				}
			}
			src += "fragment " + name + " on Root {" + body + "}\n"
		}
		hold(t, src, types, parse(t, src))
		if t.Failed() {
			return
		}
	}
}

// P20.1: as many uses that are unlike as a word has bits, or two words, and some more or less, each in a fragment of its own, in a row that begins at each of them.
func TestUsesInARow(t *testing.T) {
	types := sound(t, zoo)
	for _, many := range []int{1, 2, 63, 64, 65, 127, 128, 129} {
		for _, from := range []int{0, many / 2, many - 1} {
			row := numbered(many, "fragment F# on Root {f(i: $v#) ...F+} ")
			src := "query ($v" + strconv.Itoa(many-1) + ": P $v0: Int) {...F" + strconv.Itoa(from) + "} query {...F0} " + row
			if faults := hold(t, src, types, parse(t, src)); len(faults) < many {
				t.Errorf("%s: %d faults", src, len(faults))
			}
		}
	}
}
