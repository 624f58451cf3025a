package jsonout_test

import (
	"encoding/json"
	"math/rand"
	"strings"
	"testing"
	"unicode/utf8"

	"pergola/api"
	"pergola/jsonout"
)

func TestTextExamples(t *testing.T) {
	cases := []struct{ s, want string }{
		{"", `""`}, {"a", `"a"`}, {" ", `" "`}, {"\"", `"\""`}, {"\\", `"\\"`}, {"/", `"/"`}, {"'", `"'"`}, {"<>&", `"<>&"`},
		{"\b\t\n\f\r", `"\b\t\n\f\r"`}, {"\x00\x01\x07\x0b\x0e\x0f\x10\x1a\x1f", `"\u0000\u0001\u0007\u000b\u000e\u000f\u0010\u001a\u001f"`},
		{"\x7f", "\"\x7f\""}, {"\u0080", "\"\xc2\x80\""}, {"\u2028\u2029", "\"\xe2\x80\xa8\xe2\x80\xa9\""}, {"\ufeff", "\"\xef\xbb\xbf\""}, {"\ufffd", "\"\xef\xbf\xbd\""}, {"\uffff", "\"\xef\xbf\xbf\""},
		{"\U0001f600", "\"\xf0\x9f\x98\x80\""}, {"\U0010ffff", "\"\xf4\x8f\xbf\xbf\""},
		{"a\"\\/\b\x0b\x7f\u2028", "\"a\\\"\\\\/\\b\\u000b\x7f\xe2\x80\xa8\""}, {`\u0041`, `"\\u0041"`}, {"\"\"", `"\"\""`}, {"\n\n", `"\n\n"`}, {"a\nb", `"a\nb"`}, {"é\né", `"é\né"`},
	}
	for _, c := range cases {
		if got, e := jsonout.Text(c.s); got != c.want || e != api.OK {
			t.Errorf("Text(%q) = %q, %d; want %q", c.s, got, e, c.want)
		}
		wantAsValueAndName(t, c.s, c.want)
	}
}

// wantAsValueAndName: a text has one canonical form, wherever it stands.
func wantAsValueAndName(t *testing.T, s, want string) {
	t.Helper()
	v := object(mem(s, text(s)))
	got, e := jsonout.Write(v)
	if string(got) != "{"+want+":"+want+"}" || e != api.OK {
		t.Errorf("Write of the object %q: %q is %q, %d", s, s, got, e)
	}
	if n, e := jsonout.Size(v); n != 2*len(want)+3 || e != api.OK {
		t.Errorf("Size of the object %q: %q is %d, %d", s, s, n, e)
	}
}

func TestTextOfEveryCharacter(t *testing.T) {
	for c := rune(0); c <= utf8.MaxRune; c++ {
		if !utf8.ValidRune(c) {
			continue
		}
		s := string(c)
		got, e := jsonout.Text(s)
		if want := speltText(s); got != want || e != api.OK {
			t.Fatalf("Text of U+%04X = %q, %d; want %q", c, got, e, want)
		}
	}
}

// All texts of up to three of these bytes, well formed or not.
func TestTextOfShortTexts(t *testing.T) {
	const bytes = "a\"\\\n\x00\x1f\x7f\x80\xa0\xc2\xc3\xe2\xed\xf0\xff"
	texts := []string{""}
	for from, n := 0, 1; n <= 3; n++ {
		to := len(texts)
		for _, s := range texts[from:to] {
			for i := range len(bytes) {
				texts = append(texts, s+bytes[i:i+1])
			}
		}
		from = to
	}
	refused := 0
	for _, s := range texts {
		want, wantErrno := "", api.ErrText
		if utf8.ValidString(s) {
			want, wantErrno = speltText(s), api.OK
		} else {
			refused++
		}
		if got, e := jsonout.Text(s); got != want || e != wantErrno {
			t.Fatalf("Text(%q) = %q, %d; want %q, %d", s, got, e, want, wantErrno)
		}
	}
	if refused == 0 || refused == len(texts) {
		t.Errorf("%d of %d texts are refused", refused, len(texts))
	}
}

func TestTextRefuses(t *testing.T) {
	for _, s := range []string{"\xff", "a\xc3", "\xc3", "\x80", "\xc0\x80", "\xed\xa0\x80", "\xed\xbf\xbf", "\xf4\x90\x80\x80", "\xe2\x80", "\xe2\x80a", "\n\xfe", "\xfea", strings.Repeat("a", 1000) + "\xf0\x9f\x98"} {
		if got, e := jsonout.Text(s); got != "" || e != api.ErrText {
			t.Errorf("Text(%q) = %q, %d; want ErrText", s, got, e)
		}
		for _, v := range []api.Value{text(s), list(num(1), text(s)), object(mem(s, num(1))), object(mem("a", num(1)), mem(s, num(1)))} {
			if got, e := jsonout.Write(v); len(got) != 0 || e != api.ErrText {
				t.Errorf("Write of %q = %q, %d; want ErrText", s, got, e)
			}
			if n, e := jsonout.Size(v); n != 0 || e != api.ErrText {
				t.Errorf("Size of %q = %d, %d; want ErrText", s, n, e)
			}
		}
	}
}

// Another reader takes the texts for what they were made of.
func TestTextIsReadBack(t *testing.T) {
	source := rand.New(rand.NewSource(4))
	const few = "a\"\\/\b\x00\u2028\U0001f600é\n"
	chars := []rune(string(few))
	for range 20000 {
		var s strings.Builder
		for range source.Intn(12) {
			s.WriteRune(chars[source.Intn(len(chars))])
		}
		got, e := jsonout.Text(s.String())
		var back string
		if err := json.Unmarshal([]byte(got), &back); e != api.OK || err != nil || back != s.String() {
			t.Fatalf("Text(%q) = %q, %d, which is read as %q, %v", s.String(), got, e, back, err)
		}
		if want := speltText(s.String()); got != want {
			t.Fatalf("Text(%q) = %q; want %q", s.String(), got, want)
		}
	}
}

func TestLongTexts(t *testing.T) {
	const n = 3 << 20
	for piece, want := range map[string]string{"a": "a", "\x01": `\u0001`, "é": "é", "\"": `\"`, "ab\n": `ab\n`} {
		s, e := jsonout.Text(strings.Repeat(piece, n))
		if s != `"`+strings.Repeat(want, n)+`"` || e != api.OK {
			t.Errorf("%d times %q: %d bytes, %d", n, piece, len(s), e)
		}
		if size, e := jsonout.Size(text(strings.Repeat(piece, n))); size != len(s) || e != api.OK {
			t.Errorf("Size of %d times %q: %d, %d", n, piece, size, e)
		}
	}
}
