package parts_test

import (
	"math/rand"
	"strings"
	"testing"
)

// everySource hands on the sources of at most length pieces; one that no reader reads to its end isn't made longer, for what stands behind a fault isn't looked at.
func everySource(t *testing.T, pieces []string, length, depth int) {
	t.Helper()
	var grow func(src string, room int)
	grow = func(src string, room int) {
		if !checkSource(t, src, depth) || room == 0 {
			return
		}
		for _, piece := range pieces {
			grow(src+" "+piece, room-1)
		}
	}
	grow("", length)
}

// All short sources: each reader, ReadLit and ReadType answer what the model does.
func TestEveryType(t *testing.T) {
	for depth := range 4 {
		everySource(t, []string{"a", "[", "]", "!", "$", "1", "?"}, 6, depth)
	}
	everySource(t, []string{"a", "[", "]", "!"}, 8, 3)
}

func TestEveryLit(t *testing.T) {
	for depth := range 3 {
		everySource(t, []string{"a", "null", "[", "]", "{", "}", ":", "$", "1", "\n\"s\"", "?"}, 5, depth+1)
	}
	everySource(t, []string{"a", "[", "]", "{", "}", ":"}, 7, 3)
}

func TestEveryArgAndDir(t *testing.T) {
	everySource(t, []string{"a", "(", ")", "[", "]", ":", "@", "$"}, 8, 2)
	everySource(t, []string{"a", "(", ")", ":", "@"}, 11, 1)
}

// A right source with one token dropped, doubled, changed or put in.
func TestSpoiltSources(t *testing.T) {
	pieces := []string{"a", "on", "true", "null", "1", "2.5", "\"s\"", "\"\"\"k\"\"\"", "[", "]", "{", "}", "(", ")", ":", "!", "$", "@", "...", "?", ""}
	right := []string{
		"[ [ [ a ! ] ! ] ] !",
		"[ 1 { a : $ b , a : null c : [ [ ] { } ] } \"s\" true ]",
		"{ a : { b : [ 1 2 { c : $ on } ] } d : x }",
		"@ a ( x : 1 ) @ a @ b ( y : [ 2 { z : null } ] w : $ v ) c",
		"( a : [ { b : [ ] } ] c : { d : { } } )",
	}
	r := rand.New(rand.NewSource(88))
	for _, src := range right {
		words := strings.Fields(src)
		for i := range words {
			for _, piece := range pieces {
				for depth := 1; depth < 6; depth += 2 {
					checkSource(t, strings.Join(words[:i], " ")+" "+piece+" "+strings.Join(words[i:], " "), depth)
					checkSource(t, strings.Join(words[:i], "\n")+" "+piece+" "+strings.Join(words[i+1:], " "), depth)
				}
			}
			checkSource(t, strings.Join(words[:i], ","), r.Intn(6))
		}
	}
}

// Sources by chance, of pieces and of bytes.
func TestSourcesByChance(t *testing.T) {
	r := rand.New(rand.NewSource(888))
	pieces := []string{"a", "b:", "1", "-2.5", "null", "\"s\"", "[", "]", "{", "}", "(", ")", "[1]", "{a:1}", "$v", "@d", "@d(a:1)", ":", "!", "\r\n", "# c\n"}
	for range 10000 {
		checkSource(t, pick(r, pieces, 15), r.Intn(5))
	}
	const odd = "a1\"[]{}():@$!. \n\\#\x80\x00-"
	for range 10000 {
		src := make([]byte, r.Intn(12))
		for i := range src {
			src[i] = odd[r.Intn(len(odd))]
		}
		checkSource(t, string(src), r.Intn(3))
	}
}
