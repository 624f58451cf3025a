package values_test

import (
	"math"
	"testing"
	"unsafe"

	"pergola/api"
	"pergola/tree"
	"pergola/values"
)

func TestIsNull(t *testing.T) {
	for kind := api.Kind(-3); kind < 12; kind++ {
		if got, want := values.IsNull(api.Value{Kind: kind, Int: 7}), kind < 1 || kind > 7; got != want {
			t.Errorf("kind %d: %v", kind, got)
		}
	}
	for _, kind := range []api.Kind{math.MinInt, math.MaxInt} {
		if !values.IsNull(api.Value{Kind: kind}) {
			t.Errorf("kind %d", kind)
		}
	}
}

func TestIsFinite(t *testing.T) {
	for _, f := range []float64{0, math.Copysign(0, -1), 7.5, 5e-324, math.MaxFloat64, -math.MaxFloat64} {
		if !values.IsFinite(f) {
			t.Error(f)
		}
	}
	for _, f := range []float64{math.NaN(), math.Float64frombits(0xFFF8000000000001), math.Inf(1), math.Inf(-1)} {
		if values.IsFinite(f) {
			t.Error(f)
		}
	}
}

// full has every field set, and in its lists, down to a depth, values of all kinds that are as full.
func full(kind api.Kind, depth int) api.Value {
	v := api.Value{Kind: kind, Bool: true, Int: 7, Float: 7.5, Text: string([]byte("text")), Type: string([]byte("type"))}
	if depth == 0 {
		return v
	}
	for inner := api.Kind(-1); inner < 9; inner++ {
		v.Items = append(v.Items, full(inner, depth-1))
		v.Fields = append(v.Fields, api.Member{Name: string([]byte{'m', byte('b' + inner)}), Value: full(inner, depth-1)})
	}
	return v
}

// checkPlain holds a plain copy against what it was made of.
func checkPlain(t *testing.T, v, from api.Value) {
	t.Helper()
	right := api.Value{}
	switch from.Kind {
	case api.KindBool:
		right = api.Value{Kind: from.Kind, Bool: from.Bool}
	case api.KindInt:
		right = api.Value{Kind: from.Kind, Int: from.Int}
	case api.KindFloat:
		right = api.Value{Kind: from.Kind, Float: from.Float}
	case api.KindString:
		right = api.Value{Kind: from.Kind, Text: from.Text}
	case api.KindHandle:
		right = api.Value{Kind: from.Kind, Text: from.Text, Type: from.Type}
	case api.KindList, api.KindObject:
		right = api.Value{Kind: from.Kind}
	}
	if v.Kind != right.Kind || v.Bool != right.Bool || v.Int != right.Int || v.Float != right.Float || v.Text != right.Text || v.Type != right.Type {
		t.Fatalf("%v became %v", from, v)
	}
	if from.Kind != api.KindList {
		from.Items = nil
	}
	if from.Kind != api.KindObject {
		from.Fields = nil
	}
	if len(v.Items) != len(from.Items) || len(v.Fields) != len(from.Fields) {
		t.Fatalf("of kind %d: %d items, %d members", from.Kind, len(v.Items), len(v.Fields))
	}
	for i := range v.Items {
		checkPlain(t, v.Items[i], from.Items[i])
	}
	for i := range v.Fields {
		if v.Fields[i].Name != from.Fields[i].Name {
			t.Errorf("%s became %s", from.Fields[i].Name, v.Fields[i].Name)
		}
		checkPlain(t, v.Fields[i].Value, from.Fields[i].Value)
	}
}

func TestPlain(t *testing.T) {
	for kind := api.Kind(-1); kind < 10; kind++ {
		v := full(kind, 2)
		before := tree.Copy(v)
		checkPlain(t, values.Plain(v), v)
		checkPlain(t, values.Plain(v), before)
		if !tree.Equal(values.Plain(v), v) {
			t.Errorf("kind %d isn't equal", kind)
		}
	}
}

// sharesText: does a text or a name of one value lie in the other's memory?
func sharesText(a, b api.Value) bool {
	if len(a.Text) > 0 && unsafe.StringData(a.Text) == unsafe.StringData(b.Text) || len(a.Type) > 0 && unsafe.StringData(a.Type) == unsafe.StringData(b.Type) {
		return true
	}
	for i := range a.Items {
		if sharesText(a.Items[i], b.Items[i]) {
			return true
		}
	}
	for i, m := range a.Fields {
		if unsafe.StringData(m.Name) == unsafe.StringData(b.Fields[i].Name) || sharesText(m.Value, b.Fields[i].Value) {
			return true
		}
	}
	return false
}

// A copy is new memory: what is written into it isn't seen in what it was made of, nor the other way round.
func TestPlainIsNew(t *testing.T) {
	for _, kind := range []api.Kind{api.KindString, api.KindHandle, api.KindList, api.KindObject} {
		v := full(kind, 2)
		made, want := values.Plain(v), values.Plain(full(kind, 2))
		if sharesText(made, v) {
			t.Errorf("kind %d: a text is shared", kind)
		}
		for i := range v.Items {
			v.Items[i], v.Fields[i].Value = api.Value{}, api.Value{}
		}
		if !tree.Equal(made, want) {
			t.Errorf("kind %d: a list is shared", kind)
		}
	}
}

func TestText(t *testing.T) {
	s := string([]byte("some text"))
	v := values.Text(s)
	checkPlain(t, v, api.Value{Kind: api.KindString, Text: s})
	if unsafe.StringData(v.Text) == unsafe.StringData(s) {
		t.Error("the text is shared")
	}
}
