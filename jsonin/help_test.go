package jsonin_test

import (
	"math"
	"math/rand"
	"strconv"
	"strings"
	"testing"

	"pergola/api"
	"pergola/jsonin"
)

var minusZero = math.Copysign(0, -1)

func yes(b bool) api.Value { return api.Value{Kind: api.KindBool, Bool: b} }

func num(n int64) api.Value { return api.Value{Kind: api.KindInt, Int: n} }

func float(f float64) api.Value { return api.Value{Kind: api.KindFloat, Float: f} }

func text(s string) api.Value { return api.Value{Kind: api.KindString, Text: s} }

func list(l ...api.Value) api.Value { return api.Value{Kind: api.KindList, Items: l} }

func object(m ...api.Member) api.Value { return api.Value{Kind: api.KindObject, Fields: m} }

func mem(name string, v api.Value) api.Member { return api.Member{Name: name, Value: v} }

// whole is the text of all fields of a value, at every depth, whether they count or not.
func whole(v api.Value) string {
	var out strings.Builder
	layWhole(&out, v)
	return out.String()
}

func layWhole(out *strings.Builder, v api.Value) {
	out.WriteString("(" + strconv.Itoa(int(v.Kind)) + strconv.FormatBool(v.Bool) + strconv.FormatInt(v.Int, 10) + " " + strconv.FormatUint(math.Float64bits(v.Float), 16) + strconv.Quote(v.Text) + strconv.Quote(v.Type) + "[")
	for _, x := range v.Items {
		layWhole(out, x)
	}
	out.WriteString("]{")
	for _, m := range v.Fields {
		out.WriteString(strconv.Quote(m.Name))
		layWhole(out, m.Value)
	}
	out.WriteString("})")
}

// wantValue: src is read as just this value, the fields that don't count among what is held.
func wantValue(t *testing.T, src string, depth int, want api.Value) {
	t.Helper()
	v, at, e := jsonin.Read([]byte(src), depth)
	if whole(v) != whole(want) || at != 0 || e != api.OK {
		t.Errorf("Read(%q, %d) = %s, %d, %d; want %s", src, depth, whole(v), at, e, whole(want))
	}
}

// wantFault: src has this first fault, and beside it nothing is answered.
func wantFault(t *testing.T, src string, depth, at int, errno api.Errno) {
	t.Helper()
	v, gotAt, e := jsonin.Read([]byte(src), depth)
	if whole(v) != whole(api.Value{}) || gotAt != at || e != errno {
		t.Errorf("Read(%q, %d) = %s, %d, %d; want %d, %d", src, depth, whole(v), gotAt, e, at, errno)
	}
}

// wantModel: src is answered as the model in model_test.go answers it, which tells its fault's error or OK.
func wantModel(t *testing.T, src string, depth int) api.Errno {
	t.Helper()
	at, e := firstFault(src, depth)
	if e != api.OK {
		wantFault(t, src, depth, at, e)
	} else {
		wantValue(t, src, depth, otherReading(t, src))
	}
	if t.Failed() {
		t.FailNow()
	}
	return e
}

// leaves are values without children, the edges of their kinds among them.
func leaves() []api.Value {
	return []api.Value{
		{}, yes(true), yes(false), num(0), num(1), num(-1), num(math.MinInt64), num(math.MaxInt64), float(0), float(minusZero), float(1), float(1e21), float(5e-324), float(-math.MaxFloat64), float(1 << 53), num(1 << 53),
		text(""), text("a"), text("null"), text("[]"), text(`\`), text("\n\x00\x1f"), text(`"`), text("\u2028"), text("\ufffd"), text("\U0001f600"), text("\u00e9"), text("e\u0301"), list(), object(),
	}
}

// random is a value over the leaves, without a name that stands twice in an object.
func random(source *rand.Rand, depth int) api.Value {
	if depth > 0 {
		switch source.Intn(3) {
		case 0:
			v := list()
			for range source.Intn(4) {
				v.Items = append(v.Items, random(source, depth-1))
			}
			return v
		case 1:
			v := object()
			for i := range source.Intn(4) {
				v.Fields = append(v.Fields, mem([]string{"", "a", "\"", "é\n"}[i], random(source, depth-1)))
			}
			return v
		}
	}
	all := leaves()
	return all[source.Intn(len(all))]
}
