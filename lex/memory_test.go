package lex_test

import (
	"slices"
	"sync"
	"testing"

	"pergola/api"
	"pergola/lex"
)

// sources are right and wrong ones, of all kinds of tokens.
func sources() []string {
	return []string{
		"", "{a}", "a", "12", "-1.5e3", "\"a\\n\\u0041\"", "\"\"\"\n  a\n  b\\\"\"\"\"\"\"", "... on A @b(c: [1, \"x\"]) # d\n{ e }", "a\xff", "a #\x00", "\"a", "\"\"\"a", "01", "\ufeffa\r\n\r b", "..", "\u00e9", "#",
	}
}

// P7.4: neither the bytes nor the room behind them are changed or looked at.
func TestBytesAreLeft(t *testing.T) {
	for _, src := range sources() {
		want := lex.Tokens([]byte(src))
		for _, spare := range []string{"a", "1", "\"", "\"\"\"", ".", "\n", "\x80", "\xff", "#"} {
			full := []byte(src + spare)
			was := slices.Clone(full)
			if got := lex.Tokens(full[:len(src)]); !slices.Equal(got, want) {
				t.Errorf("Tokens(%q) with %q behind it = %s", src, spare, told(got))
			}
			if !slices.Equal(full, was) {
				t.Errorf("%q has become %q", was, full)
			}
		}
	}
}

// P7.4: what is answered is not changed by what becomes of the bytes or the characters.
func TestSourcesAreNotKept(t *testing.T) {
	for _, src := range sources() {
		bytes := []byte(src)
		list := lex.Tokens(bytes)
		chars, clean := modelDecode(src)
		token := lex.Next(chars, clean, 0)
		for i := range bytes {
			bytes[i] = '!'
		}
		for i := range chars {
			chars[i] = '!'
		}
		if want := modelTokens(src); !slices.Equal(list, want) || token != want[0] {
			t.Errorf("%q: %s and %s after it was changed", src, told(list), tok(token))
		}
	}
}

// P7.4: no list is handed out twice, its spare room neither.
func TestListsAreNew(t *testing.T) {
	for _, src := range sources() {
		want := lex.Tokens([]byte(src))
		spoilt := lex.Tokens([]byte(src))
		again := lex.Tokens([]byte(src))
		spoilt = spoilt[:cap(spoilt)]
		for i := range spoilt {
			spoilt[i] = api.Token{Kind: -1, Text: "spoilt"}
		}
		for _, got := range [][]api.Token{again, lex.Tokens([]byte(src))} {
			if !slices.Equal(got, want) {
				t.Errorf("Tokens(%q) = %s after another answer was changed", src, told(got))
			}
		}
	}
}

// R2: calls at the same time, over the same bytes, answer alike.
func TestAtTheSameTime(t *testing.T) {
	var group sync.WaitGroup
	for _, src := range sources() {
		bytes := []byte(src)
		chars, clean := modelDecode(src)
		want := modelTokens(src)
		for range 8 {
			group.Go(func() {
				if got := lex.Tokens(bytes); !slices.Equal(got, want) {
					t.Errorf("Tokens(%q) = %s", src, told(got))
				}
				if got := lex.Next(chars, clean, 0); got != want[0] {
					t.Errorf("Next(%q) = %s", src, tok(got))
				}
			})
		}
	}
	group.Wait()
}

// R4: no bytes are nil or an empty list.
func TestNoBytes(t *testing.T) {
	want := []api.Token{{Kind: api.TokEnd, Pos: api.Pos{Line: 1, Col: 1}}}
	for _, src := range [][]byte{nil, {}} {
		if got := lex.Tokens(src); !slices.Equal(got, want) {
			t.Errorf("%+v", got)
		}
	}
	for _, chars := range [][]rune{nil, {}} {
		wantNext(t, chars, true, 0, want[0])
	}
}
