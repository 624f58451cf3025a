package values_test

import (
	"strconv"
	"testing"

	"pergola/api"
	"pergola/values"
)

func TestLookup(t *testing.T) {
	members := []api.Member{{Name: "a", Value: values.Text("first")}, {Name: "b"}, {Name: "a", Value: values.Text("second")}, {Name: "", Value: values.Text("none")}}
	for range 2 {
		l := values.NewLookup(members)
		for _, r := range []struct {
			name, text string
			has        bool
		}{{"a", "first", true}, {"b", "", true}, {"", "none", true}, {"A", "", false}, {"c", "", false}, {"a", "first", true}} {
			if v, has := l.Find(r.name); v.Text != r.text || has != r.has {
				t.Errorf("%q: %v, %v", r.name, v, has)
			}
		}
	}
	for _, l := range []*values.Lookup{values.NewLookup(nil), {}} {
		if v, has := l.Find("a"); has || v.Kind != api.KindNull {
			t.Error("found among none:", v)
		}
	}
}

func TestLookupOfMany(t *testing.T) {
	const many = 100000
	members := make([]api.Member, many)
	for i := range members {
		members[i] = api.Member{Name: strconv.Itoa(i), Value: api.Value{Kind: api.KindInt, Int: int64(i)}}
	}
	l := values.NewLookup(members)
	for i := range members {
		if v, has := l.Find(strconv.Itoa(i)); !has || v.Int != int64(i) {
			t.Fatal(i, v, has)
		}
	}
}
