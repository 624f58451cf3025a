package overlap

import (
	"pergola/api"
	"pergola/lits"
)

// values numbers literals: two have one number just if they are the same by layer 13.
type values struct {
	all     []api.Lit
	byPrint map[uint64][]int
}

func newValues() *values {
	return &values{byPrint: map[uint64][]int{}}
}

func (v *values) number(l api.Lit) int {
	mark := printOf(l)
	for _, i := range v.byPrint[mark] {
		if lits.Same(v.all[i], l) {
			return i
		}
	}
	number := len(v.all)
	v.byPrint[mark] = append(v.byPrint[mark], number)
	v.all = append(v.all, l)
	return number
}

// printOf is a number that literals which are the same have in common, and hardly any others: so each needn't be held against all.
func printOf(l api.Lit) uint64 {
	mark := mix(1, uint64(l.Kind))
	switch l.Kind {
	case api.LitNull:
		return mark
	case api.LitList:
		for _, item := range l.Items {
			mark = mix(mark, printOf(item))
		}
		return mark
	case api.LitObject:
		sum := uint64(0) // for the order of the fields doesn't count
		for _, field := range l.Fields {
			sum += mix(textPrint(field.Name), printOf(field.Value))
		}
		return mix(mark, sum)
	}
	return mix(mark, textPrint(l.Text))
}

func textPrint(text string) uint64 {
	mark := uint64(len(text))
	for i := range len(text) {
		mark = mix(mark, uint64(text[i]))
	}
	return mark
}

// mix scatters what two numbers have: the product brings low bits up, the shift high ones down.
func mix(a, b uint64) uint64 {
	sum := a*0x9e3779b97f4a7c15 + b
	return sum ^ sum>>32
}
