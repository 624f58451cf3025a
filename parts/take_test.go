package parts_test

import (
	"math"
	"strconv"
	"strings"
	"testing"

	"pergola/api"
	"pergola/parts"
)

// wantCalls makes calls of a new cursor and holds what each tells, and the state at the end, against what is wanted.
func wantCalls(t *testing.T, src string, depth int, list []call, told []string, then string) {
	t.Helper()
	c := parts.New([]byte(src), depth)
	for i, o := range list {
		same(t, src+": "+o.String(), o.of(c), told[i])
	}
	same(t, src+" at the end", state(c), then)
	checkCalls(t, src, depth, list)
}

func do(method string, args ...string) []call {
	return []call{{method, args}}
}

// P8.2: Punct and Word take what they are asked for, or do nothing.
func TestPunctAndWord(t *testing.T) {
	wantCalls(t, "( a", 0, do("Punct", "("), []string{"true"}, "na@1:3 nesting 0 fault ok,false")
	wantCalls(t, "( a", 0, do("Punct", ")"), []string{"false"}, "p(@1:1 nesting 0 fault ok,false")
	wantCalls(t, "( a", 0, do("Word", "("), []string{"false"}, "p(@1:1 nesting 0 fault ok,false")
	wantCalls(t, "...a", 0, do("Punct", "..."), []string{"true"}, "na@1:4 nesting 0 fault ok,false")
	wantCalls(t, "a (", 0, do("Word", "a"), []string{"true"}, "p(@1:3 nesting 0 fault ok,false")
	wantCalls(t, "a (", 0, do("Word", "A"), []string{"false"}, "na@1:1 nesting 0 fault ok,false")
	wantCalls(t, "a (", 0, do("Punct", "a"), []string{"false"}, "na@1:1 nesting 0 fault ok,false")
	wantCalls(t, "\"a\"", 0, do("Word", "a"), []string{"false"}, "s\"a\"@1:1 nesting 0 fault ok,false")
	wantCalls(t, "", 0, do("Punct", ""), []string{"false"}, "E@1:1 nesting 0 fault ok,false")
	wantCalls(t, "", 0, do("Word", ""), []string{"false"}, "E@1:1 nesting 0 fault ok,false")
	wantCalls(t, "01", 0, do("Punct", ""), []string{"false"}, "B@1:1 nesting 0 fault ok,false")
	wantCalls(t, "01", 0, do("Word", ""), []string{"false"}, "B@1:1 nesting 0 fault ok,false")
}

// P8.2: Want, WantWord and Name refuse what they don't take.
func TestWants(t *testing.T) {
	wantCalls(t, ": a", 0, do("Want", ":"), []string{"true"}, "na@1:3 nesting 0 fault ok,false")
	wantCalls(t, " :", 0, do("Want", "="), []string{"false"}, "p:@1:2 nesting 0 fault syntax 1:2,true")
	wantCalls(t, "a", 0, do("Want", "a"), []string{"false"}, "na@1:1 nesting 0 fault syntax 1:1,true")
	wantCalls(t, "", 0, do("Want", ""), []string{"false"}, "E@1:1 nesting 0 fault syntax 1:1,true")
	wantCalls(t, "01", 0, do("Want", ":"), []string{"false"}, "B@1:1 nesting 0 fault syntax 1:1,true")

	wantCalls(t, " on a", 0, do("WantWord", "in", "on"), []string{"on@1:2,true"}, "na@1:5 nesting 0 fault ok,false")
	wantCalls(t, " on a", 0, do("WantWord", "in", "a"), []string{"no name,false"}, "non@1:2 nesting 0 fault syntax 1:2,true")
	wantCalls(t, " on a", 0, do("WantWord"), []string{"no name,false"}, "non@1:2 nesting 0 fault syntax 1:2,true")
	wantCalls(t, "(", 0, do("WantWord", "("), []string{"no name,false"}, "p(@1:1 nesting 0 fault syntax 1:1,true")
	wantCalls(t, "", 0, do("WantWord", ""), []string{"no name,false"}, "E@1:1 nesting 0 fault syntax 1:1,true")

	wantCalls(t, "\n on a", 0, do("Name"), []string{"on@2:2,true"}, "na@2:5 nesting 0 fault ok,false")
	wantCalls(t, "on a", 0, do("Name", "a", "in"), []string{"on@1:1,true"}, "na@1:4 nesting 0 fault ok,false")
	wantCalls(t, "on a", 0, do("Name", "a", "on"), []string{"no name,false"}, "non@1:1 nesting 0 fault syntax 1:1,true")
	wantCalls(t, "true", 0, do("Name"), []string{"true@1:1,true"}, "E@1:5 nesting 0 fault ok,false")
	wantCalls(t, "1", 0, do("Name"), []string{"no name,false"}, "i1@1:1 nesting 0 fault syntax 1:1,true")
	wantCalls(t, "\"a\"", 0, do("Name"), []string{"no name,false"}, "s\"a\"@1:1 nesting 0 fault syntax 1:1,true")
	wantCalls(t, "", 0, do("Name"), []string{"no name,false"}, "E@1:1 nesting 0 fault syntax 1:1,true")
	wantCalls(t, "?", 0, do("Name"), []string{"no name,false"}, "B@1:1 nesting 0 fault syntax 1:1,true")
}

// P8.2: End and Refuse.
func TestEndAndRefuse(t *testing.T) {
	wantCalls(t, " # a", 0, do("End"), []string{"true"}, "E@1:5 nesting 0 fault ok,false")
	twice := []call{{"End", nil}, {"End", nil}}
	wantCalls(t, "", 0, twice, []string{"true", "true"}, "E@1:1 nesting 0 fault ok,false")
	wantCalls(t, "a", 0, do("End"), []string{"false"}, "na@1:1 nesting 0 fault syntax 1:1,true")
	wantCalls(t, "\x00", 0, do("End"), []string{"false"}, "B@1:1 nesting 0 fault syntax 1:1,true")
	wantCalls(t, " a", 0, do("Refuse"), []string{""}, "na@1:2 nesting 0 fault syntax 1:2,true")
	wantCalls(t, "", 0, do("Refuse"), []string{""}, "E@1:1 nesting 0 fault syntax 1:1,true")
	// The first fault stays.
	wantCalls(t, "( (", 1, []call{{"Open", []string{"("}}, {"Open", []string{"("}}, {"Refuse", nil}}, []string{"true", "false", ""}, "p(@1:3 nesting 1 fault depth 1:3,true")
	wantCalls(t, "(", 0, []call{{"Refuse", nil}, {"Open", []string{"("}}}, []string{"", "false"}, "p(@1:1 nesting 0 fault syntax 1:1,true")
}

// P8.2: Open and Close count; Punct and Want don't.
func TestOpenAndClose(t *testing.T) {
	wantCalls(t, "( a", 1, do("Open", "("), []string{"true"}, "na@1:3 nesting 1 fault ok,false")
	wantCalls(t, "( a", 0, do("Open", "("), []string{"false"}, "p(@1:1 nesting 0 fault depth 1:1,true")
	wantCalls(t, "( a", 0, do("Open", "["), []string{"false"}, "p(@1:1 nesting 0 fault syntax 1:1,true")
	wantCalls(t, "( a", 1, do("Open", "["), []string{"false"}, "p(@1:1 nesting 0 fault syntax 1:1,true")
	wantCalls(t, "a", 1, do("Open", "a"), []string{"false"}, "na@1:1 nesting 0 fault syntax 1:1,true")
	wantCalls(t, "", 1, do("Open", ""), []string{"false"}, "E@1:1 nesting 0 fault syntax 1:1,true")
	// With no bracket open.
	wantCalls(t, ") a", 1, do("Close", ")"), []string{"true"}, "na@1:3 nesting 0 fault ok,false")
	wantCalls(t, ") ) (", 1, []call{{"Close", []string{")"}}, {"Close", []string{")"}}, {"Open", []string{"("}}}, []string{"true", "true", "true"}, "E@1:6 nesting 1 fault ok,false")
	wantCalls(t, ") a", 1, do("Close", "]"), []string{"false"}, "p)@1:1 nesting 0 fault syntax 1:1,true")
	wantCalls(t, "", 1, do("Close", ""), []string{"false"}, "E@1:1 nesting 0 fault syntax 1:1,true")
	// Any punctuator; which of them is the caller's.
	wantCalls(t, "! | ... )", 3, []call{{"Open", []string{"!"}}, {"Open", []string{"|"}}, {"Close", []string{"..."}}, {"Close", []string{")"}}}, []string{"true", "true", "true", "true"}, "E@1:10 nesting 0 fault ok,false")
	// What was closed is free again.
	wantCalls(t, "( ) [ ]", 1, []call{{"Open", []string{"("}}, {"Close", []string{")"}}, {"Open", []string{"["}}}, []string{"true", "true", "true"}, "p]@1:7 nesting 1 fault ok,false")
	wantCalls(t, "( [ ] )", 1, []call{{"Punct", []string{"("}}, {"Want", []string{"["}}, {"Punct", []string{"]"}}, {"Want", []string{")"}}}, []string{"true", "true", "true", "true"}, "E@1:8 nesting 0 fault ok,false")
	wantCalls(t, "( )", 1, []call{{"Open", []string{"("}}, {"Punct", []string{")"}}}, []string{"true", "true"}, "E@1:4 nesting 1 fault ok,false")
}

// 'Limits': a depth below 0 counts as 0, one above MostDepth as MostDepth.
func TestDepths(t *testing.T) {
	src := strings.Repeat("{", 300)
	for depth, most := range map[int]int{math.MinInt: 0, -201: 0, -1: 0, 0: 0, 1: 1, 2: 2, 199: 199, 200: 200, 201: 200, 299: 200, 1 << 16: 200, 1 << 32: 200, math.MaxInt: 200} {
		c := parts.New([]byte(src), depth)
		n := 0
		for c.Open("{") {
			n++
		}
		if n != most {
			t.Errorf("depth %d: %d brackets", depth, n)
		}
		same(t, "depth "+strconv.Itoa(depth), state(c), "p{@1:"+strconv.Itoa(most+1)+" nesting "+strconv.Itoa(most)+" fault depth 1:"+strconv.Itoa(most+1)+",true")
		if most == 0 {
			most = 1 // of no bracket there is no literal to be read within the depth
			wantLit(t, "[]", true, depth, "depth 1:1")
			wantType(t, "[a]", depth, "depth 1:1")
			continue
		}
		lists := func(n int) string { return strings.Repeat("[", n) + "a" + strings.Repeat("]", n) }
		if _, fault := parts.ReadLit([]byte(lists(most)), true, depth); fault.Kind != api.OK {
			t.Error("lists at the limit:", depth, fault)
		}
		ref, fault := parts.ReadType([]byte(lists(most)), depth)
		if fault.Kind != api.OK || ref != (api.TypeRef{Name: "a", Wrap: strings.Repeat("]", most)}) {
			t.Error("a reference at the limit:", depth, ref, fault)
		}
		beyond := "depth 1:" + strconv.Itoa(most+1)
		wantLit(t, lists(most+1), true, depth, beyond)
		wantType(t, lists(most+1), depth, beyond)
		wantLit(t, strings.Repeat("[", most+1), false, depth, beyond)
		wantLit(t, strings.Repeat("[", most)+"{", false, depth, beyond)
	}
}

// P8.3.
func TestNote(t *testing.T) {
	wantCalls(t, "\"d\\n\" a", 0, do("Note"), []string{"s\"d\\n\",true"}, "na@1:7 nesting 0 fault ok,false")
	wantCalls(t, "\"\" a", 0, do("Note"), []string{"s\"\",true"}, "na@1:4 nesting 0 fault ok,false")
	wantCalls(t, "\"\"\"\n d\n  e\n\"\"\" a", 0, do("Note"), []string{"k\"d\\n e\",true"}, "na@4:5 nesting 0 fault ok,false")
	wantCalls(t, "\"\"\"\"\"\"", 0, do("Note"), []string{"k\"\",true"}, "E@1:7 nesting 0 fault ok,false")
	wantCalls(t, "\"a\" \"b\"", 0, do("Note"), []string{"s\"a\",true"}, "s\"b\"@1:5 nesting 0 fault ok,false")
	for _, src := range []string{"", "a", "1", "2.5", "(", "?", "\"", "\"\\q\""} {
		first := tellToken(parts.New([]byte(src), 0).Token())
		wantCalls(t, src, 0, do("Note"), []string{"no note,true"}, first+" nesting 0 fault ok,false")
	}
}
