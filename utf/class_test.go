package utf_test

import (
	"math"
	"strings"
	"testing"

	"pergola/utf"
)

const (
	letters   = "ABCDEFGHIJKLMNOPQRSTUVWXYZabcdefghijklmnopqrstuvwxyz"
	digits    = "0123456789"
	hexDigits = "0123456789abcdefABCDEF"
	blanks    = "\t\n\r ,\ufeff"
)

// oneOf: does c stand in the text? (A rune that is no scalar value stands in none.)
func oneOf(text string, c rune) bool {
	return scalar(c) && strings.ContainsRune(text, c)
}

func hexValue(c rune) int {
	if !oneOf(hexDigits, c) {
		return -1
	}
	n := strings.IndexRune(hexDigits, c)
	if n > 15 {
		n -= 6
	}
	return n
}

func checkClasses(t *testing.T, c rune) {
	t.Helper()
	source := c == 9 || c == 0xA || c == 0xD || c >= 0x20 && c <= 0xFFFF && scalar(c)
	if utf.Source(c) != source {
		t.Fatalf("Source(%x)", c)
	}
	if utf.Blank(c) != oneOf(blanks, c) {
		t.Fatalf("Blank(%x)", c)
	}
	if utf.NameStart(c) != oneOf(letters+"_", c) {
		t.Fatalf("NameStart(%x)", c)
	}
	if utf.NameRest(c) != oneOf(letters+digits+"_", c) {
		t.Fatalf("NameRest(%x)", c)
	}
	if utf.Digit(c) != oneOf(digits, c) {
		t.Fatalf("Digit(%x)", c)
	}
	if utf.Hex(c) != hexValue(c) {
		t.Fatalf("Hex(%x) = %d", c, utf.Hex(c))
	}
}

func TestClasses(t *testing.T) {
	for c := rune(-0x400); c <= 0x11FFFF; c++ {
		checkClasses(t, c)
	}
	// What a narrower integer would take for a character of the class.
	for _, high := range []rune{math.MinInt32, -0x10000, 0x1000000, 0x7FFF0000} {
		for low := range rune(0x100) {
			checkClasses(t, high+low)
		}
	}
	checkClasses(t, math.MaxInt32)
}

func TestClassExamples(t *testing.T) {
	if !utf.Source(0x7F) || utf.Source(0) || !utf.Source(0xFFFF) || utf.Source(0x10000) || utf.Source(-1) {
		t.Error("Source")
	}
	if utf.Blank(0xB) {
		t.Error("Blank")
	}
	if utf.Hex('g') != -1 || utf.Hex('F') != 15 {
		t.Error("Hex")
	}
}
