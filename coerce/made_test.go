package coerce_test

import (
	"math"
	"math/rand"
	"strconv"
	"strings"
	"testing"

	"pergola/api"
	"pergola/check"
	"pergola/coerce"
	"pergola/lits"
	"pergola/printer"
	"pergola/tree"
)

// P22.2: type systems and values by chance, held against the second way.
func TestInputsByChance(t *testing.T) {
	fit, first, deep, late := 0, 0, 0, 0
	for seed := range int64(360) {
		m := &maker{r: rand.New(rand.NewSource(seed)), slip: []int{8, 30, 200}[seed%3]}
		m.system()
		for range 50 {
			want := ref(t, m.typ())
			v := m.value(want, 4)
			got, right := inputText(t, m.types, v, want), model(t, m.types, v, want)
			if got != right {
				t.Fatalf("%s\n%v at %s: got %s, want %s", m.src, v, printer.Type(want), got, right)
			}
			switch {
			case !strings.Contains(got, " wants "):
				fit++
			case got == " wants "+printer.Type(want) && strings.ContainsAny(want.Wrap, "]!"):
				late++
			case strings.HasPrefix(got, " "):
				first++
			default:
				deep++
			}
		}
	}
	if fit < 10000 || first < 500 || deep < 1000 || late < 150 {
		t.Error("too few of a kind:", fit, first, deep, late)
	}
}

// P22.2: what was coerced fits again, and stays as it is.
func TestInputAgain(t *testing.T) {
	for seed := range int64(100) {
		m := &maker{r: rand.New(rand.NewSource(seed)), slip: 200}
		m.system()
		for range 30 {
			want := ref(t, m.typ())
			v, err := coerce.Input(m.types, m.value(want, 4), want)
			if err != nil {
				continue
			}
			again, err := coerce.Input(m.types, v, want)
			if err != nil || !tree.Equal(v, again) {
				t.Fatalf("%s\n%v at %s: %v, %v", m.src, v, printer.Type(want), again, err)
			}
		}
	}
}

// smallValues are values of few parts: leaves of all kinds, and lists and objects of them.
func smallValues() []api.Value {
	leaves := []api.Value{{}, {Kind: 42}, {Kind: api.KindBool, Bool: true}, whole(1), whole(1 << 31), {Kind: api.KindFloat, Float: 1}, {Kind: api.KindFloat, Float: math.NaN()}, text("A"), text("\xc0"), {Kind: api.KindHandle, Type: "X", Text: "A"}, list(), object(nil)}
	all := leaves
	for _, one := range leaves {
		all = append(all, list(one), list(whole(1), one), list(list(one)))
		for _, name := range []string{"a", "b", "c"} {
			all = append(all, object([]api.Member{{Name: name, Value: one}}), object([]api.Member{{Name: "a", Value: whole(1)}, {Name: name, Value: one}}))
			all = append(all, object([]api.Member{{Name: "b", Value: object([]api.Member{{Name: name, Value: one}, {Name: "a", Value: whole(2)}})}, {Name: "a", Value: one}}))
		}
	}
	return all
}

// P22.2: all small values at all types with up to three marks.
func TestSmallInputsAtAllTypes(t *testing.T) {
	types := sound(t, "type Query {a: Int} enum X {A B} scalar S input J {a: Int b: J} input K {a: Int! b: [K!] = [{a: 1}] c: X! = A} input L {a: L = {} b: Int}")
	for _, want := range typed("Int", "Float", "String", "Boolean", "ID", "X", "S", "J", "K", "L") {
		for _, v := range smallValues() {
			if got, right := inputText(t, types, v, want), model(t, types, v, want); got != right {
				t.Fatalf("%v at %s: got %s, want %s", v, printer.Type(want), got, right)
			}
		}
	}
}

// P22.4, P22.6: type systems, literals and variables by chance, held against the second way.
func TestLiteralsByChance(t *testing.T) {
	valued, failed, without, constants := 0, 0, 0, 0
	for seed := range int64(300) {
		m := &maker{r: rand.New(rand.NewSource(seed)), slip: 1 << 30}
		m.system()
		for range 40 {
			m.plans = nil
			want := ref(t, m.typ())
			src := m.literal(t, want, 4, m.chance(4))
			v := lit(t, src)
			if len(lits.Check(m.types, v, want)) > 0 {
				continue
			}
			vars := m.vars()
			got, right := literalText(t, m.types, v, want, vars), modelLiteral(t, m.types, v, want, vars)
			if got != right {
				t.Fatalf("%s\n%s at %s with %v: got %s, want %s", m.src, src, printer.Type(want), vars, got, right)
			}
			switch {
			case len(lits.Vars(v)) == 0:
				constants++
				holdConst(t, m, v, want, got)
			case got == isNone:
				without++
			case got == fails:
				failed++
			default:
				valued++
			}
		}
	}
	if valued < 1500 || failed < 250 || without < 250 || constants < 2500 {
		t.Error("too few of a kind:", valued, failed, without, constants)
	}
}

// holdConst holds what Literal answers of a literal without variables against layer 13.
func holdConst(t testing.TB, m *maker, v api.Lit, want api.TypeRef, got string) {
	t.Helper()
	made, ok := lits.Const(m.types, v, want)
	right := fails
	if ok {
		right = written(t, made)
	}
	other := literalText(t, m.types, v, want, []api.Member{{Name: "v0"}, {Name: "v1", Value: whole(1)}})
	if got != right || other != right {
		t.Fatalf("%s\n%s at %s: got %s and %s, want %s", m.src, printer.Lit(v), printer.Type(want), got, other, right)
	}
}

// P22.5: arguments are what an object of an input type with the same fields is.
func TestArgumentsByChance(t *testing.T) {
	valued, failed := 0, 0
	for seed := range int64(300) {
		m := &maker{r: rand.New(rand.NewSource(seed)), slip: 1 << 30}
		m.system()
		defs := fieldArgs(t, m.types, "q")
		for range 20 {
			m.plans = nil
			want := ref(t, "Q")
			src := m.literal(t, want, 4, m.chance(4))
			v := lit(t, src)
			if v.Kind != api.LitObject {
				continue
			}
			var args []api.Arg
			for _, field := range v.Fields {
				args = append(args, api.Arg{Name: field.Name, Value: field.Value, Pos: field.Pos})
			}
			vars := m.vars()
			got, right := argumentsText(t, m.types, defs, args, vars), literalText(t, m.types, v, want, vars)
			if got != right {
				t.Fatalf("%s\n%s with %v: got %s, want %s", m.src, src, vars, got, right)
			}
			if got == fails {
				failed++
			} else {
				valued++
			}
		}
	}
	if valued < 1000 || failed < 400 {
		t.Error("too few of a kind:", valued, failed)
	}
}

// P22.3: variables are what an object of an input type with the same fields is; all of them are told, where Input tells the first.
func TestVariablesByChance(t *testing.T) {
	valued, one, more := 0, 0, 0
	for seed := range int64(300) {
		m := &maker{r: rand.New(rand.NewSource(seed)), slip: []int{6, 30, 200}[seed%3]}
		m.system()
		def, _ := m.types.Type("Q")
		src, uses := "query (", ""
		for i, input := range def.Inputs {
			src += "\n$" + input.Name + ": " + printer.Type(input.Type)
			if input.HasDefault {
				src += " = " + printer.Lit(input.Default)
			}
			uses += " $" + input.Name
			def.Inputs[i].Pos = api.Pos{Line: i + 2, Col: 1}
		}
		doc := parse(t, src+") {s(x: ["+uses+"])}")
		if faults := check.All(m.types, doc); len(faults) > 0 {
			t.Fatalf("%s isn't valid: %v", src, faults)
		}
		for range 20 {
			given := m.value(ref(t, "Q!"), 4)
			if given.Kind != api.KindObject {
				continue
			}
			given.Fields = append(given.Fields, m.object(def, 2).Fields...)
			got, right := variablesText(t, m.types, doc, 0, given), modelVariables(t, m, def, given)
			if got != right {
				t.Fatalf("%s\n%s, %v: got %s, want %s", m.src, src, given, got, right)
			}
			switch strings.Count(got, ";") {
			case 0:
				if strings.HasPrefix(got, "{") {
					valued++
				} else {
					one++
				}
			default:
				more++
			}
		}
	}
	if valued < 1000 || one < 400 || more < 150 {
		t.Error("too few of a kind:", valued, one, more)
	}
}

// modelVariables is what Variables should answer, as variablesText writes it: the object with its first misfit taken away, till none is left.
func modelVariables(t testing.TB, m *maker, def api.SysDef, given api.Value) string {
	t.Helper()
	var told []string
	known := object(nil)
	for _, input := range def.Inputs {
		for _, member := range given.Fields {
			if member.Name == input.Name {
				known.Fields = append(known.Fields, member)
				break
			}
		}
	}
	for i, input := range def.Inputs {
		one := object(nil)
		for _, member := range known.Fields {
			if member.Name == input.Name {
				one.Fields = append(one.Fields, member)
			}
		}
		if text := m.misfitOf(t, one, input); text != "" {
			told = append(told, strings.TrimSpace(strconv.Itoa(i+2)+":1 "+text))
		}
	}
	if len(told) > 0 {
		return strings.Join(told, "; ")
	}
	made, err := coerce.Input(m.types, known, ref(t, "Q"))
	if err != nil {
		t.Fatal(err)
	}
	return written(t, made)
}

// misfitOf is the path of what is wrong with an object's one member, or a blank if it has none; no text if nothing is wrong.
func (m *maker) misfitOf(t testing.TB, one api.Value, input api.InputDef) string {
	t.Helper()
	if len(one.Fields) == 0 {
		_, ok := lits.Const(m.types, input.Default, input.Type)
		if input.HasDefault && ok || !input.HasDefault && !strings.HasSuffix(input.Type.Wrap, "!") {
			return ""
		}
		return " "
	}
	path, _, isWrong := strings.Cut(model(t, m.types, one.Fields[0].Value, input.Type), " wants ")
	if !isWrong {
		return ""
	}
	return path + " "
}
