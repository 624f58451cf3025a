package result_test

import (
	"math"
	"math/rand"
	"strconv"
	"testing"

	"pergola/api"
	"pergola/coerce"
	"pergola/result"
	"pergola/tree"
	"pergola/typesys"
)

func builtIn() []string { return []string{"Int", "Float", "String", "Boolean", "ID"} }

// holdLeaf holds Leaf of a value, and of the same value with noise, against the second way.
func holdLeaf(t testing.TB, types *typesys.Types, name string, v api.Value) string {
	t.Helper()
	right := modelLeaf(t, types, name, v)
	for _, v := range []api.Value{v, noisy(v)} {
		if got := leafText(t, types, name, v); got != right {
			t.Fatalf("Leaf(%s, %v): got %s, want %s", name, v, got, right)
		}
	}
	return right
}

// P23.1: type systems and values by chance, at all types.
func TestLeavesByChance(t *testing.T) {
	let, refused, unknown, null := 0, 0, 0, 0
	for seed := range int64(150) {
		m := &maker{r: rand.New(rand.NewSource(seed))}
		types := sound(t, m.system())
		names := append(types.Names(), "", "Nope", "E9", "d")
		for range 60 {
			v := m.value(3, names)
			for _, name := range names {
				switch holdLeaf(t, types, name, v) {
				case "ErrKind":
					unknown++
				case "ErrResult":
					refused++
				case "null":
					null++
				default:
					let++
				}
			}
		}
	}
	if let < 10000 || refused < 10000 || unknown < 10000 || null < 3000 {
		t.Error("too few of a kind:", let, refused, unknown, null)
	}
}

// P23.2: type systems by chance, all names at all names.
func TestRuntimesByChance(t *testing.T) {
	fit, strange, unknown := 0, 0, 0
	for seed := range int64(150) {
		m := &maker{r: rand.New(rand.NewSource(seed))}
		types := sound(t, m.system())
		names := append(types.Names(), "", "Nope", "d")
		for _, want := range names {
			for _, name := range names {
				got, right := runtimeText(t, types, want, noisy(handle(name))), modelRuntime(t, types, want, handle(name))
				if got != right {
					t.Fatalf("%s\nRuntime(%s, %s): got %s, want %s", m.src.String(), want, name, got, right)
				}
				switch got {
				case "ErrKind":
					unknown++
				case "ErrRuntime":
					strange++
				default:
					fit++
				}
			}
			v := m.value(2, names)
			if got, right := runtimeText(t, types, want, v), modelRuntime(t, types, want, v); got != right {
				t.Fatalf("%s\nRuntime(%s, %v): got %s, want %s", m.src.String(), want, v, got, right)
			}
		}
	}
	if fit < 1500 || strange < 10000 || unknown < 10000 {
		t.Error("too few of a kind:", fit, strange, unknown)
	}
}

// P23.1: whole numbers and floats around every power of two and of ten.
func TestNumbersAroundPowers(t *testing.T) {
	types := sound(t, chapter)
	var numbers []api.Value
	for power := range 64 {
		for more := int64(-2); more <= 2; more++ {
			n := int64(1)<<power + more
			numbers = append(numbers, whole(n), whole(-n), float(float64(n)), float(-float64(n)), float(float64(n)+0.5))
		}
	}
	for power := -330; power < 310; power++ {
		f := math.Pow10(power)
		numbers = append(numbers, float(f), float(-f), float(math.Nextafter(f, 0)), float(math.Nextafter(f, math.Inf(1))))
	}
	for _, name := range append(builtIn(), "S", "E") {
		for _, v := range numbers {
			holdLeaf(t, types, name, v)
		}
	}
}

// P23.1: all texts of up to two bytes, and of some longer ones.
func TestShortTexts(t *testing.T) {
	types := sound(t, chapter)
	for one := range 256 {
		texts := []string{string([]byte{byte(one)}), "A" + string([]byte{byte(one)}), string([]byte{0xE2, 0x82, byte(one)}), string([]byte{0xF0, byte(one), 0x80, 0x80})}
		for other := range 256 {
			texts = append(texts, string([]byte{byte(one), byte(other)}))
		}
		for _, s := range texts {
			for _, name := range []string{"String", "ID", "S", "E"} {
				holdLeaf(t, types, name, text(s))
			}
			holdLeaf(t, types, "S", object(member(s, whole(1))))
		}
	}
}

// smallValues are values of few parts: leaves of all kinds, and lists and objects of them.
func smallValues() []api.Value {
	leaves := []api.Value{{}, {Kind: -1}, {Kind: 8}, truth(true), truth(false), whole(0), whole(1 << 31), whole(1<<53 + 1), text("A"), text("\xc0"), handle("T"), handle(""), list(), object()}
	for _, f := range oddFloats() {
		leaves = append(leaves, float(f))
	}
	all := leaves
	for _, one := range leaves {
		all = append(all, list(one), list(list(one)), object(member("a", one)), object(member("a", one), member("a", one)))
		for _, other := range leaves {
			all = append(all, list(one, other), object(member("a", one), member("b", other)), object(member("b", list(one)), member("a", object(member("b", other)))))
		}
	}
	return all
}

// P23.1: all small values at all types.
func TestSmallValues(t *testing.T) {
	types := sound(t, chapter)
	for _, name := range append(builtIn(), "E", "S", "T", "Nope") {
		for _, v := range smallValues() {
			holdLeaf(t, types, name, v)
		}
	}
}

// P23.1: what was let out is let out again as it is, and fits as input of the type.
func TestLeafAgain(t *testing.T) {
	for seed := range int64(60) {
		m := &maker{r: rand.New(rand.NewSource(seed))}
		types := sound(t, m.system())
		for range 60 {
			v := m.value(3, types.Names())
			for _, name := range append(builtIn(), "S0", "E0") {
				made, errno := result.Leaf(types, name, v)
				if errno != api.OK {
					continue
				}
				again, errno := result.Leaf(types, name, made)
				if errno != api.OK || !tree.Equal(again, made) {
					t.Fatalf("Leaf(%s, %v): %v, %d", name, made, again, errno)
				}
				input, err := coerce.Input(types, made, api.TypeRef{Name: name})
				if err != nil || !tree.Equal(input, made) {
					t.Fatalf("Input(%v, %s): %v, %v", made, name, input, err)
				}
			}
		}
	}
}

// P23.1: a custom scalar lets out a value Equal to what came in, of just the values that are sound.
func TestCustomIsEqual(t *testing.T) {
	types := sound(t, chapter)
	m := &maker{r: rand.New(rand.NewSource(1))}
	equal, refused := 0, 0
	for range 3000 {
		v := m.value(5, []string{"T"})
		if !isKnownKind(v) {
			continue
		}
		made, errno := result.Leaf(types, "S", v)
		_, fault := tree.Sound(v)
		switch {
		case (errno == api.OK) != (fault == api.OK):
			t.Fatalf("%v: %d, but layer 3 says %d", v, errno, fault)
		case errno != api.OK:
			refused++
		case !tree.Equal(made, v):
			t.Fatalf("%v became %v", v, made)
		default:
			equal++
		}
	}
	if equal < 1500 || refused < 200 {
		t.Error("too few of a kind:", equal, refused)
	}
}

// R2: what is asked in between makes no difference.
func TestOrderOfQuestions(t *testing.T) {
	types := sound(t, family)
	names := types.Names()
	ask := func(i int) string {
		name, v := names[i%len(names)], smallValues()[i%97]
		return leafText(t, types, name, v) + " " + runtimeText(t, types, name, handle(names[i*7%len(names)]))
	}
	var want []string
	for i := range 300 {
		want = append(want, ask(i))
	}
	for _, i := range rand.New(rand.NewSource(1)).Perm(300) {
		if got := ask(i); got != want[i] {
			t.Error(strconv.Itoa(i)+": got", got, "want", want[i])
		}
	}
}
