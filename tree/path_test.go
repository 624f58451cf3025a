package tree_test

import (
	"bytes"
	"math"
	"regexp"
	"slices"
	"strconv"
	"strings"
	"testing"

	"pergola/api"
	"pergola/tree"
)

func TestPathTextExamples(t *testing.T) {
	cases := []struct {
		path []api.Step
		want string
	}{
		{nil, ""}, {path(), ""}, {path(name("0"), item(0), name("~/")), "/~20/0/~0~1"}, {path(name("")), "/~2"}, {path(name("-")), "/~2-"}, {path(name("-a")), "/~2-a"}, {path(name("9x")), "/~29x"}, {path(name("a9-")), "/a9-"},
		{path(item(-5)), "/-5"}, {path(item(math.MaxInt)), "/9223372036854775807"}, {path(item(math.MinInt)), "/-9223372036854775808"}, {path(name("~2")), "/~02"}, {path(name("~")), "/~0"}, {path(name("/")), "/~1"}, {path(name("~1")), "/~01"},
		{path(name("a/b~c")), "/a~1b~0c"}, {path(name("é\xff\x00")), "/é\xff\x00"}, {path(name("0/~")), "/~20~1~0"}, {path(name("+1")), "/+1"}, {path(name("٣")), "/٣"}, {path(name(""), name("")), "/~2/~2"}, {path(name("/0")), "/~10"}, {path(name(":")), "/:"},
		{path(api.Step{Name: "x", Index: 3, Item: true}), "/3"}, {path(api.Step{Name: "x", Index: 3}), "/x"},
	}
	for _, c := range cases {
		if got := tree.PathText(c.path); got != c.want {
			t.Errorf("PathText(%s) = %q, want %q", stepsOf(c.path), got, c.want)
		}
		var plain []api.Step
		for _, s := range c.path {
			if s.Item {
				plain = append(plain, item(s.Index))
			} else {
				plain = append(plain, name(s.Name))
			}
		}
		if got, ok := tree.PathRead(c.want); !ok || stepsOf(got) != stepsOf(plain) {
			t.Errorf("PathRead(%q) = %s, %v", c.want, stepsOf(got), ok)
		}
	}
}

func TestPathReadRefuses(t *testing.T) {
	for _, s := range []string{
		"/00", "/-0", "/", "a", "/~", "/~3", "/~2a", "/9223372036854775808", "/-9223372036854775809", "/99999999999999999999999", "//", "/a/", "//a", "/a//b", "a/b", "0", "~2", "/a~2", "/a~", "/a~3", "/-", "/--1", "/1x", "/1~0", "/01", "/-01", "/1 ", "/0x1", "/1_0", "/1e1", "/1.0",
		"/~2~0", "/~2~1", "/~2~", "/~2~2", "/~22~2", "/~2é", "/~2+", "/~0~2", "/~~", "/a/b/~", "/-1-", "/0/", " ", " /a", "/~20~", "/~20~5",
	} {
		if p, ok := tree.PathRead(s); ok || len(p) != 0 {
			t.Errorf("PathRead(%q) = %s, %v", s, stepsOf(p), ok)
		}
	}
}

// The grammar of path texts, and what a step of it stands for.
var (
	pathGrammar = regexp.MustCompile(`^(/(0|-?[1-9][0-9]*|~2([0-9-]([^~/]|~[01])*)?|([^~/0-9-]|~[01])([^~/]|~[01])*))*$`)
	stepNumber  = regexp.MustCompile(`^-?[0-9]+$`)
	stepEscape  = regexp.MustCompile(`~[012]`)
)

func grammarRead(s string) string {
	var p []api.Step
	for _, text := range strings.Split(s, "/")[1:] {
		if stepNumber.MatchString(text) {
			n, _ := strconv.Atoi(text)
			p = append(p, item(n))
			continue
		}
		p = append(p, name(stepEscape.ReplaceAllStringFunc(text, func(e string) string {
			return map[string]string{"~0": "~", "~1": "/", "~2": ""}[e]
		})))
	}
	return stepsOf(p)
}

// All texts of up to six of these characters, against the grammar.
func TestPathReadOfAllShortTexts(t *testing.T) {
	const letters = "/~0129-a+"
	taken := 0
	var try func(s string, left int)
	try = func(s string, left int) {
		p, ok := tree.PathRead(s)
		if ok != pathGrammar.MatchString(s) {
			t.Fatalf("PathRead(%q) = %s, %v", s, stepsOf(p), ok)
		}
		if ok {
			taken++
			if stepsOf(p) != grammarRead(s) || tree.PathText(p) != s {
				t.Fatalf("PathRead(%q) = %s, whose text is %q", s, stepsOf(p), tree.PathText(p))
			}
		} else if len(p) != 0 {
			t.Fatalf("PathRead(%q) refuses and answers %s", s, stepsOf(p))
		}
		if left > 0 {
			for _, c := range letters {
				try(s+string(c), left-1)
			}
		}
	}
	try("", 6)
	if taken < 1000 {
		t.Errorf("only %d texts are taken", taken)
	}
}

// allPaths are all paths of up to two steps out of names and numbers that look like one another.
func allPaths() [][]api.Step {
	var steps []api.Step
	letters := []string{"", "~", "/", "0", "2", "-", "a", "\xff", "é"}
	for _, a := range letters {
		for _, b := range letters {
			if s := name(a + b); !slices.Contains(steps, s) {
				steps = append(steps, s)
			}
		}
	}
	for _, i := range []int{0, 1, 2, 9, 10, 20, -1, -2, -10, math.MaxInt, math.MinInt} {
		steps = append(steps, item(i))
	}
	out := [][]api.Step{nil}
	for _, a := range steps {
		out = append(out, path(a))
		for _, b := range steps {
			out = append(out, path(a, b))
		}
	}
	return out
}

func TestPathTextAndReadOfAllPaths(t *testing.T) {
	seen := map[string]int{}
	for i, p := range allPaths() {
		s := tree.PathText(p)
		if j, ok := seen[s]; ok {
			t.Fatalf("%s and path %d have one text %q", stepsOf(p), j, s)
		}
		seen[s] = i
		if got, ok := tree.PathRead(s); !ok || stepsOf(got) != stepsOf(p) {
			t.Fatalf("PathRead(%q) = %s, %v", s, stepsOf(got), ok)
		}
	}
}

// byte by byte, as the chapter has it
func wantSteps(a, b api.Step) int {
	switch {
	case a.Item && b.Item:
		if a.Index == b.Index {
			return 0
		}
		if a.Index < b.Index {
			return -1
		}
		return 1
	case a.Item != b.Item:
		if a.Item {
			return -1
		}
		return 1
	}
	return bytes.Compare([]byte(a.Name), []byte(b.Name))
}

func wantCompare(a, b []api.Step) int {
	for i := 0; i < len(a) && i < len(b); i++ {
		if c := wantSteps(a[i], b[i]); c != 0 {
			return c
		}
	}
	switch {
	case len(a) < len(b):
		return -1
	case len(a) > len(b):
		return 1
	}
	return 0
}

func TestCompareAndUnderExamples(t *testing.T) {
	cases := []struct {
		a, b        string
		want        int
		under, over bool
	}{
		{"/a", "/a/0", -1, false, true}, {"/0", "/a", -1, false, false}, {"/10", "/9", 1, false, false}, {"/a/b", "/a", 1, true, false}, {"", "", 0, true, true}, {"/a", "", 1, true, false}, {"/ab", "/a", 1, false, false},
		{"/-1", "/0", -1, false, false}, {"/a", "/b", -1, false, false}, {"/a/b", "/b", -1, false, false}, {"/~20", "/0", 1, false, false}, {"/~2", "/9223372036854775807", 1, false, false}, {"/-9223372036854775808", "/9223372036854775807", -1, false, false},
		{"/a/0", "/a/1", -1, false, false}, {"/a/0/b", "/a/0", 1, true, false}, {"/Z", "/a", -1, false, false}, {"/~0", "/~1", 1, false, false}, {"/\xff", "/é", 1, false, false}, {"/5/x", "/5/x", 0, true, true},
	}
	for _, c := range cases {
		a, b := read(t, c.a), read(t, c.b)
		if tree.Compare(a, b) != c.want || tree.Compare(b, a) != -c.want {
			t.Errorf("Compare(%q, %q) = %d, and %d", c.a, c.b, tree.Compare(a, b), tree.Compare(b, a))
		}
		if tree.Under(a, b) != c.under || tree.Under(b, a) != c.over {
			t.Errorf("Under(%q, %q) = %v, and %v", c.a, c.b, tree.Under(a, b), tree.Under(b, a))
		}
	}
}

func TestCompareAndUnderOfAllPaths(t *testing.T) {
	all := allPaths()
	var spelt []string
	for _, p := range all {
		spelt = append(spelt, stepsOf(p))
	}
	for i, a := range all {
		for j := i % 7; j < len(all); j += 7 {
			b := all[j]
			if got := tree.Compare(a, b); got != wantCompare(a, b) {
				t.Fatalf("Compare(%s, %s) = %d", spelt[i], spelt[j], got)
			}
			if got := tree.Under(a, b); got != strings.HasPrefix(spelt[i], spelt[j]) {
				t.Fatalf("Under(%s, %s) = %v", spelt[i], spelt[j], got)
			}
		}
	}
}

func TestStepsAreAlikeByWhatTheyUse(t *testing.T) {
	a := path(api.Step{Name: "x", Index: 1}, api.Step{Name: "y", Index: 2, Item: true})
	b := path(api.Step{Name: "x", Index: 7}, api.Step{Name: "z", Index: 2, Item: true})
	if tree.Compare(a, b) != 0 || tree.Compare(b, a) != 0 || !tree.Under(a, b) || !tree.Under(b, a) || !tree.Under(a, b[:1]) {
		t.Error("what a step doesn't use counts")
	}
	c := path(api.Step{Name: "b", Index: 1}, item(0))
	d := path(api.Step{Name: "a", Index: 2}, item(0))
	if tree.Compare(c, d) != 1 || tree.Compare(d, c) != -1 {
		t.Error("names go by their Index")
	}
	e := path(api.Step{Name: "b", Index: 1, Item: true})
	f := path(api.Step{Name: "a", Index: 2, Item: true})
	if tree.Compare(e, f) != -1 || tree.Compare(f, e) != 1 || tree.Under(e, f) {
		t.Error("items go by their Name")
	}
}

func TestPathsAreLeftAndNew(t *testing.T) {
	spare := func() []api.Step {
		return append(path(api.Step{Name: "x", Index: 4}, api.Step{Name: "y", Index: 1, Item: true}), name("spare"))[:2]
	}
	a, b := spare(), spare()
	was := stepsOf(a[:3])
	tree.PathText(a)
	tree.Compare(a, b)
	tree.Under(a, b)
	tree.Get(sample(), a)
	tree.Set(sample(), a, num(1))
	if stepsOf(a[:3]) != was || stepsOf(b[:3]) != was {
		t.Error("a path has changed")
	}
	one, _ := tree.PathRead("/a/0/b")
	full := one[:cap(one)]
	for i := range full {
		full[i] = name("scribbled")
	}
	if two := read(t, "/a/0/b"); stepsOf(two) != stepsOf(path(name("a"), item(0), name("b"))) {
		t.Errorf("PathRead answers old memory: %s", stepsOf(two))
	}
}

func TestLongPaths(t *testing.T) {
	p := chainPath(nested)
	s := tree.PathText(p)
	q, ok := tree.PathRead(s)
	if !ok || tree.Compare(p, q) != 0 || !tree.Under(p, q) || !tree.Under(p, q[:nested-1]) || tree.Under(q[:nested-1], p) {
		t.Error("a path of many steps")
	}
	long := strings.Repeat("~/é", 100000)
	if q, ok := tree.PathRead(tree.PathText(path(name(long)))); !ok || len(q) != 1 || q[0] != name(long) {
		t.Error("a long name")
	}
}
