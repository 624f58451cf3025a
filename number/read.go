package number

import (
	"math"
	"strconv"
	"strings"

	"pergola/api"
)

// Read is the number that a text means.
func Read(s string) (api.Num, api.Errno) {
	end, _, form := Prefix([]byte(s), 0)
	if form == api.FormNone || end != len(s) {
		return api.Num{}, api.ErrNumber
	}
	if form == api.FormWhole {
		if n, err := strconv.ParseInt(s, 10, 64); err == nil {
			return api.Num{Kind: api.KindInt, Int: n}, api.OK
		}
	}
	f := nearest(s)
	if math.IsInf(f, 0) {
		return api.Num{}, api.ErrBig
	}
	return api.Num{Kind: api.KindFloat, Float: f}, api.OK
}

const (
	// farPower lies beyond every float: 0.1e400 is an infinity, and 0.9e-400 a nought.
	farPower = 400
	// farExponent is no text's length, however long, so that no digits make up for such an exponent.
	farExponent = 1 << 40
)

// nearest is the float of a number text.
func nearest(s string) float64 {
	sign := ""
	if strings.HasPrefix(s, "-") {
		sign = "-"
	}
	mantissa, exponent := cutExponent(s[len(sign):])
	whole, fraction, _ := strings.Cut(mantissa, ".")
	digits := strings.TrimLeft(whole+fraction, "0")
	power := exponent + int64(len(digits)) - int64(len(fraction))
	power = max(-farPower, min(power, farPower))
	// The library counts every digit but gives up long exponents, so it is handed the power by which the digits and the exponent have made up for each other.
	// It tells an infinity by its value too, so its error says nothing more.
	f, _ := strconv.ParseFloat(sign+"0."+digits+"e"+WholeText(power), 64)
	return f
}

// cutExponent cuts a number text into what stands ahead of its exponent, and the exponent; one beyond farExponent counts as that.
func cutExponent(s string) (string, int64) {
	mark := strings.IndexAny(s, "eE")
	if mark < 0 {
		return s, 0
	}
	text := s[mark+1:]
	n := int64(0)
	for _, c := range strings.TrimLeft(text, "+-") {
		n = min(n*10+int64(c-'0'), farExponent)
	}
	if text[0] == '-' {
		n = -n
	}
	return s[:mark], n
}
