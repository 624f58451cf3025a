package number

import (
	"math"
	"strconv"
	"strings"
)

// WholeText is a whole number's text.
func WholeText(n int64) string {
	return strconv.FormatInt(n, 10)
}

// FloatText is a float's canonical text.
func FloatText(f float64) string {
	if math.IsNaN(f) || math.IsInf(f, 0) {
		return ""
	}
	sign := ""
	if math.Signbit(f) {
		sign = "-"
	}
	if f == 0 {
		return sign + "0.0"
	}
	digits, power := shortest(math.Abs(f))
	return sign + layOut(digits, power)
}

// shortest is the digits of a positive float, and the power of ten that 0.digits is to be taken by.
func shortest(a float64) (string, int) {
	mantissa, exponent, _ := strings.Cut(strconv.FormatFloat(a, 'e', -1, 64), "e")
	// The library's own text is read back, so there is no error.
	power, _ := strconv.Atoi(exponent)
	return strings.Replace(mantissa, ".", "", 1), power + 1
}

// Powers from leastPlain to mostPlain are written without an exponent.
const (
	leastPlain = -5
	mostPlain  = 21
)

// layOut writes 0.digits times ten to the power of power.
func layOut(digits string, power int) string {
	n := len(digits)
	switch {
	case power < leastPlain || power > mostPlain:
		return withExponent(digits, power-1)
	case power <= 0:
		return "0." + strings.Repeat("0", -power) + digits
	case n <= power:
		return digits + strings.Repeat("0", power-n) + ".0"
	}
	return digits[:power] + "." + digits[power:]
}

// withExponent writes the first digit, a point if more follow, and the exponent.
func withExponent(digits string, exponent int) string {
	text := digits[:1]
	if len(digits) > 1 {
		text += "." + digits[1:]
	}
	return text + "e" + WholeText(int64(exponent))
}
