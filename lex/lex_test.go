package lex_test

import (
	"math/rand"
	"strings"
	"testing"

	"pergola/api"
	"pergola/lex"
)

// Examples 1 and 2 of the chapter, and all punctuators.
func TestPunctuators(t *testing.T) {
	wantTokens(t, "{a}", "p{ na p} E", 1, 4)
	if end := lex.Tokens([]byte("{a}"))[3]; end != (api.Token{Pos: api.Pos{Line: 1, Col: 4}, From: 3, To: 3}) {
		t.Errorf("the end: %+v", end)
	}
	all := "!$&():=@[]{|}"
	for _, c := range all {
		wantTokens(t, string(c), "p"+string(c)+" E", 1, 2)
		wantTokens(t, "a"+string(c)+"1", "na p"+string(c)+" i1 E", 1, 4)
		wantTokens(t, string(c)+string(c), "p"+string(c)+" p"+string(c)+" E", 1, 3)
	}
	wantTokens(t, all, "p! p$ p& p( p) p: p= p@ p[ p] p{ p| p} E", 1, 14)
	wantTokens(t, "a ..b", "na B", 1, 3)
	wantBad(t, ".")
	wantBad(t, "..")
	wantTokens(t, "...", "p... E", 1, 4)
	wantTokens(t, "....", "p... B", 1, 4)
	wantTokens(t, ".....", "p... B", 1, 4)
	wantTokens(t, "......", "p... p... E", 1, 7)
	wantTokens(t, "...on", "p... non E", 1, 6)
	wantBad(t, ". ..")
	wantBad(t, ".. .")
	wantBad(t, "..,.")
	wantBad(t, "..\xff")
}

// The tokens of every character alone: which of them begin one, and which are ignored.
func TestEveryCharacterAlone(t *testing.T) {
	for c := rune(0); c <= 0x10FFFF; c++ {
		if c >= 0xD800 && c <= 0xDFFF || c > 0x10200 && c&0xFFF != 0xFFF {
			continue
		}
		s := string(c)
		want, col := "B", 1
		switch {
		case strings.ContainsRune("!$&():=@[]{|}", c):
			want, col = "p"+s+" E", 2
		case c < 0x80 && name.MatchString(s):
			want, col = "n"+s+" E", 2
		case c >= '0' && c <= '9':
			want, col = "i"+s+" E", 2
		case strings.ContainsRune("\t ,\ufeff#", c):
			want, col = "E", 2
		case c == '\n' || c == '\r':
			wantTokens(t, s, "E", 2, 1)
			continue
		}
		wantTokens(t, s, want, 1, col)
		checkTokens(t, "a"+s+"b")
		checkTokens(t, "-"+s+"1"+s)
		checkTokens(t, "\""+s+"\"")
		checkTokens(t, "\"\\"+s+"\"")
		checkTokens(t, "\"\"\""+s+"\"\"\" ")
		checkTokens(t, "# "+s+"a")
		checkTokens(t, "."+s+".")
	}
}

// What is ignored: example 6 and the beginning of 7.
func TestBetween(t *testing.T) {
	wantTokens(t, "", "E", 1, 1)
	wantTokens(t, "a # b\r\nc", "na nc E", 2, 2)
	if list := lex.Tokens([]byte("a # b\r\nc")); list[0].Pos != (api.Pos{Line: 1, Col: 1}) || list[1].Pos != (api.Pos{Line: 2, Col: 1}) {
		t.Errorf("%+v", list)
	}
	wantTokens(t, "a #\x00", "na B", 1, 4)
	wantTokens(t, "\ufeffa", "na E", 1, 3)
	wantTokens(t, "a\ufeffb,,\ufeff,\t c", "na nb nc E", 1, 11)
	wantTokens(t, "\ufeff\ufeff", "E", 1, 3)
	wantTokens(t, ",", "E", 1, 2)
	wantTokens(t, "#", "E", 1, 2)
	wantTokens(t, "##", "E", 1, 3)
	wantTokens(t, "# a # b", "E", 1, 8)
	wantTokens(t, "#\n", "E", 2, 1)
	wantTokens(t, "#\r", "E", 2, 1)
	wantTokens(t, "#a\nb", "nb E", 2, 2)
	wantTokens(t, "#a\rb", "nb E", 2, 2)
	wantTokens(t, "#a\r\nb", "nb E", 2, 2)
	wantTokens(t, "#a\n#b\r#c\r\n#d", "E", 4, 3)
	wantTokens(t, "#a\u2028b\u0085c", "E", 1, 7)
	wantTokens(t, "#\"\"\"\na", "na E", 2, 2)
	wantTokens(t, "a#b\nc", "na nc E", 2, 2)
	wantTokens(t, "1#b\n.5", "i1 B", 2, 1)
	wantTokens(t, "...#...", "p... E", 1, 8)
	wantTokens(t, "#\U0001F600", "B", 1, 2)
	wantTokens(t, "#\xff", "B", 1, 2)
	wantTokens(t, "#a\x1fb\nc", "B", 1, 3)
	wantTokens(t, "a #b\n#\xe2\x82\nc", "na B", 2, 2)
	wantTokens(t, "#\t\x7f\uffff", "E", 1, 5)
	wantTokens(t, "a\x0bb", "na B", 1, 2)
	wantTokens(t, "a\u00a0b", "na B", 1, 2)
	wantTokens(t, "a;b", "na B", 1, 2)
}

// Bytes that are not well formed are told as one bad character, and nothing behind them is looked at.
func TestIllFormed(t *testing.T) {
	wantTokens(t, "a \xc3", "na B", 1, 3)
	wantBad(t, "\"\xc3\"")
	wantTokens(t, "a\xff", "na B", 1, 2)
	for _, bad := range illFormed() {
		for _, behind := range []string{"", "a", "\"", "\xff", " {", "\n\n"} {
			wantBad(t, bad+behind)
			wantTokens(t, "a"+bad+behind, "na B", 1, 2)
			wantTokens(t, "a\r\n "+bad+behind, "na B", 2, 2)
			wantTokens(t, "12"+bad+behind, "i12 B", 1, 3)
			wantBad(t, "-"+bad+behind)
			wantBad(t, ".."+bad+behind)
			wantTokens(t, "..."+bad+behind, "p... B", 1, 4)
			wantTokens(t, "{"+bad+behind, "p{ B", 1, 2)
			wantTokens(t, "\"\""+bad+behind, "s\"\" B", 1, 3)
			wantTokens(t, "\"a\""+bad+behind, "s\"a\" B", 1, 4)
			wantTokens(t, "\"\"\"\"\"\""+bad+behind, "k\"\"\"\"\"\" B", 1, 7)
			wantBad(t, "\"a"+bad+"\""+behind)
			wantBad(t, "\"\\"+bad+"\""+behind)
			wantBad(t, "\"\"\"a"+bad+"\"\"\""+behind)
			wantBad(t, "\"\"\"a\"\""+bad+behind)
			wantTokens(t, "# a"+bad+behind, "B", 1, 4)
			wantTokens(t, "#\n"+bad+behind, "B", 2, 1)
		}
	}
}

// A bad token's numbers, and the bad character's.
func TestBadNumbers(t *testing.T) {
	for _, c := range []struct {
		src  string
		want api.Token
	}{
		{"\xff", api.Token{Kind: api.TokBad, Pos: api.Pos{Line: 1, Col: 1}}},
		{"\u00e9 \xff", api.Token{Kind: api.TokBad, Pos: api.Pos{Line: 1, Col: 1}}},
		{"a\n\xff", api.Token{Kind: api.TokBad, Pos: api.Pos{Line: 2, Col: 1}, From: 2, To: 2}},
		{"\"\u00e9\" \"a", api.Token{Kind: api.TokBad, Pos: api.Pos{Line: 1, Col: 5}, From: 4, To: 4}},
		{"\ufeff# \u00e9\r\n 01", api.Token{Kind: api.TokBad, Pos: api.Pos{Line: 2, Col: 2}, From: 7, To: 7}},
	} {
		list := lex.Tokens([]byte(c.src))
		if got := list[len(list)-1]; got != c.want {
			t.Errorf("%q: %+v, want %+v", c.src, got, c.want)
		}
	}
}

// Places in lines and columns, over all kinds of line ends, in block strings too.
func TestPlaces(t *testing.T) {
	src := "a\r\nb\n\nc\rd\n\r\"\"\"\r\n\n\r\"\"\" e\t\u00e9"
	wantTokens(t, src, "na nb nc nd k\"\"\"\r\n\n\r\"\"\" ne B", 10, 7)
	var got []api.Pos
	for _, token := range lex.Tokens([]byte(src)) {
		got = append(got, token.Pos)
	}
	want := []api.Pos{{Line: 1, Col: 1}, {Line: 2, Col: 1}, {Line: 4, Col: 1}, {Line: 5, Col: 1}, {Line: 7, Col: 1}, {Line: 10, Col: 5}, {Line: 10, Col: 7}}
	for i := range want {
		if got[i] != want[i] {
			t.Errorf("token %d at %v, want %v", i, got[i], want[i])
		}
	}
}

// All short sources of pieces that matter to each other.
func TestEveryShortSource(t *testing.T) {
	check := func(src string) {
		checkTokens(t, src)
		checkBetween(t, src)
	}
	everyText([]string{"\"", "\\", "a", "\n", " "}, 7, check)
	everyText([]string{"\"", "\"\"\"", "\\", "\r", "u0041", "n", "\x00"}, 5, check)
	everyText([]string{"0", "1", "-", ".", "e", "+", "_", " "}, 5, check)
	everyText([]string{"#", "\n", "\r", "a", "\x00", ",", "\ufeff", "\xff"}, 5, check)
	everyText([]string{".", "..", "a", " ", "{", "#", "\U0001F600"}, 5, check)
	everyText([]string{"\"", "\\", "\xc3", "\x00", "a"}, 6, check)
	everyText([]string{"\"\"\"", "\"\"", "\"", "\\", "\\\"\"\""}, 6, check)
}

// checkBetween: P7.3, by a pattern of its own.
func checkBetween(t *testing.T, src string) {
	t.Helper()
	chars, _ := modelDecode(src)
	to := 0
	for _, token := range lex.Tokens([]byte(src)) {
		gap := plain(chars[to:token.From], true)
		whole := ignored.FindString(gap) == gap
		last := gap[strings.LastIndexAny(gap, "\r\n")+1:]
		if !whole || strings.Contains(last, "#") && token.Kind > api.TokBad {
			t.Fatalf("%q: %q is passed over", src, gap)
		}
		to = token.To
	}
}

// Long rows of right and wrong pieces.
func TestRandomSources(t *testing.T) {
	random := rand.New(rand.NewSource(7))
	pieces := []string{
		"a", "_b1", "on", "true", "0", "-0", "12", "-1.5e+3", "1E5", "\"\"", "\"a\\n\\\"\"", "\"\\uD83D\\uDE00\"", "\"\"\"\"\"\"", "\"\"\" a\r\n  b\\\"\"\"\n\"\"\"",
		"...", "{", "}", "(", ")", "[", "]", "!", "$", "&", ":", "=", "@", "|", " ", "\n", "\r\n", "\r", ",", "\t", "\ufeff", "# c\n", "#\r", "# \u00e9\n",
	}
	wrong := []string{"\"", "\\", "\x00", "\xff", "\U0001F600", "..", "01", "-", "1.", "\"\"\"", "#", "\u00e9", ";", "\"\\x\"", "1a"}
	for range 20000 {
		var src strings.Builder
		for range random.Intn(25) {
			if random.Intn(40) == 0 {
				src.WriteString(wrong[random.Intn(len(wrong))])
			} else {
				src.WriteString(pieces[random.Intn(len(pieces))])
			}
		}
		checkTokens(t, src.String())
		checkBetween(t, src.String())
	}
}

// No more is done for a token in a long source than in a short one.
func TestLongSources(t *testing.T) {
	const n = 1 << 19
	for _, c := range []struct {
		piece string
		want  int
	}{
		{"a ", n + 1}, {"{", n + 1}, {"1\n", n + 1}, {"\"\"\n", n + 1}, {"\"\"\"\"\"\"", n + 1}, {"...", n + 1}, {"#\n", 1}, {"#", 1}, {", ", 1}, {"\r\n", 1}, {"a", 2}, {"1", 2},
	} {
		if list := lex.Tokens([]byte(strings.Repeat(c.piece, n))); len(list) != c.want || list[c.want-1].Kind != api.TokEnd {
			t.Errorf("%q: %d tokens", c.piece, len(list))
		}
	}
	for _, src := range []string{
		"\"" + strings.Repeat("a", n) + "\"", "\"" + strings.Repeat("\\\"", n) + "\"", "\"\"\"" + strings.Repeat("\n a", n) + "\"\"\"", "\"\"\"" + strings.Repeat("\\\"\"\"", n) + "\"\"\"", "\"\"\"" + strings.Repeat("\"\"a", n) + "\"\"\"", "0." + strings.Repeat("0", n),
	} {
		if list := lex.Tokens([]byte(src)); len(list) != 2 || list[0].Text != src || list[0].To != len(src) || list[1].Kind != api.TokEnd {
			t.Errorf("%q..: %d tokens", src[:8], len(list))
		}
	}
	for _, src := range []string{"\"" + strings.Repeat("a", n), "\"" + strings.Repeat("\\\"", n), "\"\"\"" + strings.Repeat("\"\"a", n), "\"\"\"" + strings.Repeat("\\\"\"\"", n), strings.Repeat("1", n) + "a"} {
		if list := lex.Tokens([]byte(src)); len(list) != 1 || list[0].Kind != api.TokBad || list[0].From != 0 {
			t.Errorf("%q..: %d tokens", src[:8], len(list))
		}
	}
}
