package strval_test

import (
	"slices"
	"strings"
	"testing"

	"pergola/api"
	"pergola/strval"
)

// insides are right and wrong ones of both kinds of strings.
func insides() []string {
	var out []string
	for s := range quotedExamples() {
		out = append(out, s)
	}
	for s := range blockExamples() {
		out = append(out, s)
	}
	out = append(out, quotedRefusals()...)
	return append(out, blockRefusals()...)
}

// Neither the characters nor the room behind them are changed or looked at.
func TestInsidesAreLeft(t *testing.T) {
	spares := []string{`"""`, `\"""`, `n`, `DE00`, `\uDE00`, "\n\n", "0", "\x00"}
	for _, s := range insides() {
		short := []rune(s)
		quoted, quotedErrno := strval.Quoted(slices.Clip(short))
		block, blockErrno := strval.Block(slices.Clip(short))
		for _, spare := range spares {
			full := text(s, spare)
			was := slices.Clone(full)
			if v, e := strval.Quoted(full[:len(short)]); v != quoted || e != quotedErrno {
				t.Errorf("Quoted(%q) with %q behind it = %q, %d", s, spare, v, e)
			}
			if v, e := strval.Block(full[:len(short)]); v != block || e != blockErrno {
				t.Errorf("Block(%q) with %q behind it = %q, %d", s, spare, v, e)
			}
			if !slices.Equal(full, was) {
				t.Errorf("%q has become %q", was, full)
			}
		}
	}
}

// roomy is the lines laid into one list of characters and one of lines, each with spare room that is not to be touched.
func roomy(list [][]rune) (in, all [][]rune, chars []rune) {
	for _, line := range list {
		chars = append(chars, line...)
		chars = append(chars, '#')
	}
	chars = append(chars, '#', '#')
	from := 0
	for _, line := range list {
		all = append(all, chars[from:from+len(line)])
		from += len(line) + 1
	}
	n := len(all)
	all = append(all, []rune("spare"), []rune("  spare"))
	return all[:n], all, chars
}

func cloneLines(list [][]rune) [][]rune {
	var out [][]rune
	for _, line := range list {
		out = append(out, slices.Clone(line))
	}
	return out
}

// dedentLists are lists for Dedent.
func dedentLists() [][][]rune {
	var out [][][]rune
	for _, pair := range dedentExamples() {
		out = append(out, pair[0])
	}
	everyList([]string{"", " ", "a", " b", "  c"}, 4, func(list []string) { out = append(out, lines(list...)) })
	return out
}

// Dedent leaves what it is handed as it is, the spare rooms too, and its answer does not hang on them.
func TestLinesAreLeft(t *testing.T) {
	for _, list := range dedentLists() {
		want := cloneLines(strval.Dedent(list))
		in, all, chars := roomy(list)
		wasAll, wasChars := cloneLines(all), slices.Clone(chars)
		got := strval.Dedent(in)
		if !sameLines(got, want) {
			t.Fatalf("Dedent(%q) with spare room = %q", list, got)
		}
		if !sameLines(all, wasAll) || !slices.Equal(chars, wasChars) || len(in) != len(list) {
			t.Fatalf("Dedent(%q) has changed it to %q", list, all)
		}
	}
}

// spoilLine writes into a line, its spare room too.
func spoilLine(line []rune) {
	full := line[:cap(line)]
	for i := range full {
		full[i] = '!'
	}
}

// What Dedent answers shares no memory with what it was handed, whichever of the two is written anew.
func TestDedentAnswersNewMemory(t *testing.T) {
	for _, list := range dedentLists() {
		in, all, chars := roomy(list)
		wasAll, wasChars := cloneLines(all), slices.Clone(chars)
		got := strval.Dedent(in)
		want := cloneLines(got)
		spoilLine(chars)
		if !sameLines(got, want) {
			t.Fatalf("Dedent(%q) has become %q with its lines", list, got)
		}
		copy(chars, wasChars)
		for i := range all {
			all[i] = []rune("!")
		}
		if !sameLines(got, want) {
			t.Fatalf("Dedent(%q) has become %q with its list", list, got)
		}
		in, all, chars = roomy(list)
		got = strval.Dedent(in)
		for _, line := range got {
			spoilLine(line)
		}
		full := got[:cap(got)]
		for i := range full {
			full[i] = []rune("!")
		}
		if !sameLines(all, wasAll) || !slices.Equal(chars, wasChars) {
			t.Fatalf("what Dedent(%q) answered has changed it to %q", list, all)
		}
	}
}

// No two lines of an answer share memory, not even where the same line was handed in twice.
func TestDedentLinesAreApart(t *testing.T) {
	one := []rune("  one ")
	lists := append(dedentLists(), [][]rune{one, one, one}, [][]rune{one[:3], one[1:], one[:0], one[2:4], one})
	for _, list := range lists {
		want := cloneLines(strval.Dedent(list))
		for i := range want {
			got := strval.Dedent(list)
			spoilLine(got[i])
			for k := range got {
				if k != i && !slices.Equal(got[k], want[k]) {
					t.Fatalf("Dedent(%q): line %d has become %q with line %d", list, k, got[k], i)
				}
			}
		}
	}
}

// An empty line of an answer may be lengthened without reaching another's memory.
func TestDedentEmptyLines(t *testing.T) {
	in, _, chars := roomy(lines("a", "", "  ", "    b"))
	was := slices.Clone(chars)
	got := strval.Dedent(in)
	for i := range got {
		got[i] = append(got[i], '!', '!')
	}
	if !slices.Equal(chars, was) || !sameLines(got, lines("a!!", "!!", "!!", "b!!")) {
		t.Errorf("%q, %q", got, chars)
	}
}

// A refusal leaves nothing behind for the calls that follow.
func TestCallsAreApart(t *testing.T) {
	for range 3 {
		refuseQuoted(t, text(`a\uD83D`))
		wantQuoted(t, text(`\u0041`), "A")
		refuseBlock(t, text(`""`))
		wantBlock(t, text(`"x`), `"x`)
		wantDedent(t, lines("", "  a", " b"), lines(" a", "b"))
		refuseBlockText(t, " a\n b")
		wantBlockText(t, " a\nb", "\"\"\"\n a\nb\n\"\"\"")
		wantQuoteText(t, "\"", `"\""`)
	}
}

// The calls may be made at the same time, over the same characters.
func TestCallsAtTheSameTime(t *testing.T) {
	quoted, bad, block := text(`a\uD83D\uDE00`), text(`a\x`), text("\n  a\n   \\\"\"\"")
	list := lines("", "  a", " b")
	done := make(chan bool)
	const calls = 16
	for range calls {
		go func() {
			ok := true
			for range 500 {
				q, qe := strval.Quoted(quoted)
				_, be := strval.Quoted(bad)
				b, e := strval.Block(block)
				s, se := strval.QuoteText(q)
				bt, has := strval.BlockText(b)
				ok = ok && q == "a\U0001F600" && qe == api.OK && be == api.ErrEscape && b == "a\n \"\"\"" && e == api.OK
				ok = ok && s == `"a\uD83D\uDE00"` && se == api.OK && bt == "\"\"\"\na\n \\\"\"\"\n\"\"\"" && has
				ok = ok && sameLines(strval.Dedent(list), lines(" a", "b"))
			}
			done <- ok
		}()
	}
	for range calls {
		if !<-done {
			t.Error("a call answers otherwise beside others")
		}
	}
}

// Long strings, of which work that grows faster than they do would not come to an end.
func TestLongStrings(t *testing.T) {
	const many = 1 << 20
	row := func(s string) string { return strings.Repeat(s, many) }
	wantQuoted(t, text(row(`\n`)), row("\n"))
	wantQuoted(t, text(row(`\uD83D\uDE00`)), row("\U0001F600"))
	refuseQuoted(t, text(row("a"), `\`))
	wantBlock(t, text(row("\n"), "  a", row("\n")), "a")
	wantBlock(t, text(row(" \n"), "a"), "a")
	wantBlock(t, text(row("a\n  ")), strings.TrimSuffix(row("a\n"), "\n"))
	wantBlock(t, text(row(" "), "a\n", row(" "), "b"), row(" ")+"a\nb")
	wantBlock(t, text(row(`\"""`)), row(`"""`))
	wantBlock(t, text(row(`\`), "a"), row(`\`)+"a")
	refuseBlock(t, text(row(`\`)))
	refuseBlock(t, text(row(`"a`), `"`))
	wantDedent(t, make([][]rune, many), nil)
	wantQuoteText(t, row("\x7f"), `"`+row(`\u007F`)+`"`)
	wantBlockText(t, row("\""), "\"\"\"\n"+strings.Repeat(`\"""`, many/3)+strings.Repeat(`"`, many%3)+"\n\"\"\"")
	refuseBlockText(t, row(" a\n")+" b")
	wantBlockText(t, row(" a\n")+"b", "\"\"\"\n"+row(" a\n")+"b\n\"\"\"")
}
