package number_test

import (
	"math"
	"math/big"
	"math/rand"
	"strconv"
	"strings"
	"testing"

	"pergola/api"
	"pergola/number"
)

// rat is the exact value of a number text with a small exponent.
func rat(t *testing.T, s string) *big.Rat {
	t.Helper()
	v, ok := new(big.Rat).SetString(s)
	if !ok {
		t.Fatalf("no value of %q", s)
	}
	return v
}

// nearestOf is the float of a value: its sign is told for itself, since a value of 0 has none.
func nearestOf(v *big.Rat, negative bool) float64 {
	f, _ := new(big.Rat).Abs(v).Float64()
	if negative {
		return -f
	}
	return f
}

// numOf is what Read must answer of a number text with a small exponent.
func numOf(t *testing.T, s string) (api.Num, api.Errno) {
	t.Helper()
	v := rat(t, s)
	if !strings.ContainsAny(s, ".eE") && v.Num().IsInt64() {
		return api.Num{Kind: api.KindInt, Int: v.Num().Int64()}, api.OK
	}
	f := nearestOf(v, s[0] == '-')
	if math.IsInf(f, 0) {
		return api.Num{}, api.ErrBig
	}
	return api.Num{Kind: api.KindFloat, Float: f}, api.OK
}

func sameNum(a, b api.Num) bool {
	return a.Kind == b.Kind && a.Int == b.Int && math.Float64bits(a.Float) == math.Float64bits(b.Float)
}

func checkNum(t *testing.T, s string, want api.Num, wantErr api.Errno) {
	t.Helper()
	got, e := number.Read(s)
	if e != wantErr || !sameNum(got, want) {
		t.Errorf("Read(%.60q of %d bytes) = %+v, %d; want %+v, %d", s, len(s), got, e, want, wantErr)
	}
}

func checkFloat(t *testing.T, s string, want float64) {
	t.Helper()
	checkNum(t, s, api.Num{Kind: api.KindFloat, Float: want}, api.OK)
}

func checkInt(t *testing.T, s string, want int64) {
	t.Helper()
	checkNum(t, s, api.Num{Kind: api.KindInt, Int: want}, api.OK)
}

func checkError(t *testing.T, s string, want api.Errno) {
	t.Helper()
	checkNum(t, s, api.Num{}, want)
}

func noughts(n int) string {
	return strings.Repeat("0", n)
}

var minusZero = math.Copysign(0, -1)

func TestReadInts(t *testing.T) {
	checkInt(t, "0", 0)
	checkInt(t, "-0", 0)
	checkInt(t, "7", 7)
	checkInt(t, "-120", -120)
	checkInt(t, "9007199254740993", 9007199254740993)
	checkInt(t, "9223372036854775807", math.MaxInt64)
	checkInt(t, "-9223372036854775807", -math.MaxInt64)
	checkInt(t, "-9223372036854775808", math.MinInt64)
}

func TestReadWholesBeyondInt(t *testing.T) {
	checkFloat(t, "9223372036854775808", 9223372036854775808)
	checkFloat(t, "-9223372036854775809", -9223372036854775808)
	checkFloat(t, "-9223372036854776833", -9223372036854777856)
	checkFloat(t, "18446744073709551615", 18446744073709551616)
	checkFloat(t, "18446744073709551617", 18446744073709551616)
	checkFloat(t, "1"+noughts(308), 1e308)
	checkFloat(t, "-1"+noughts(308), -1e308)
	checkError(t, "1"+noughts(309), api.ErrBig)
	checkError(t, "-1"+noughts(309), api.ErrBig)
	checkError(t, strings.Repeat("9", 100000), api.ErrBig)
}

func TestReadFloats(t *testing.T) {
	checkFloat(t, "1.0", 1)
	checkFloat(t, "-1.0", -1)
	checkFloat(t, "1e0", 1)
	checkFloat(t, "1E2", 100)
	checkFloat(t, "1e+2", 100)
	checkFloat(t, "-25E-1", -2.5)
	checkFloat(t, "0.1", 0.1)
	checkFloat(t, "1e23", 1e23)
	checkFloat(t, "9223372036854775807.0", 9223372036854775808)
	checkFloat(t, "1.7976931348623157e308", math.MaxFloat64)
	checkFloat(t, "5e-324", math.SmallestNonzeroFloat64)
	checkFloat(t, "2.2250738585072014e-308", math.Float64frombits(1<<52))
	checkFloat(t, "2.2250738585072011e-308", math.Float64frombits(1<<52-1))
	checkError(t, "1e400", api.ErrBig)
	checkError(t, "-1e400", api.ErrBig)
	checkError(t, "1e309", api.ErrBig)
}

func TestReadNoughts(t *testing.T) {
	for _, s := range []string{"0.0", "0e5", "0E-5", "0.000e+0", "0e99999999999999999999", "0e-99999999999999999999", "0.0e18446744073709551617"} {
		checkFloat(t, s, 0)
		checkFloat(t, "-"+s, minusZero)
	}
	for _, s := range []string{"1e-999", "1e-400", "2e-324", "0.1e-999999999999999999999999", "9e-18446744073709551616"} {
		checkFloat(t, s, 0)
		checkFloat(t, "-"+s, minusZero)
	}
}

func TestReadWrong(t *testing.T) {
	wrong := []string{
		"", "-", "+1", " 1", "1 ", "\t1", "1\n", "01", "00", "-01", "1.", ".5", "-.5", "1.e5", "1e", "1e+", "1e-", "1e5.5", "1e5e5", "e5",
		"--1", "1-", "0x1", "0x1p4", "0b1", "1_0", "1_000.5", "1e1_0", "Inf", "inf", "Infinity", "-Inf", "NaN", "nan", "1f", "1,5", "1.5.2",
		"\u0661", "1\u0661", "\uFF11", "\u22121", "1\x00", "\x001", "\xff", "1\xff", "1e\u0661", "1" + noughts(400) + "x", "1e" + noughts(400) + "x",
	}
	for _, s := range wrong {
		checkError(t, s, api.ErrNumber)
	}
}

// TestReadShortTexts tries all short texts of the grammar's characters.
func TestReadShortTexts(t *testing.T) {
	texts := []string{""}
	for first := 0; first < len(texts) && len(texts[first]) < 5; first++ {
		for _, c := range "019-+.eE " {
			texts = append(texts, texts[first]+string(c))
		}
	}
	for _, s := range texts {
		if !isNumber(s) {
			checkError(t, s, api.ErrNumber)
			continue
		}
		want, e := numOf(t, s)
		checkNum(t, s, want, e)
	}
}

func TestReadLongTexts(t *testing.T) {
	const many = 100000
	checkFloat(t, "0."+noughts(many)+"1e100001", 1)
	checkFloat(t, "-0."+noughts(many)+"1e100001", -1)
	checkFloat(t, "0."+noughts(many)+"1e100002", 10)
	checkFloat(t, "1"+noughts(many)+"e-100000", 1)
	checkFloat(t, "1"+noughts(many)+".0e-100000", 1)
	checkFloat(t, "-1"+noughts(many)+"e-100001", -0.1)
	checkFloat(t, "1."+noughts(many), 1)
	checkFloat(t, "0."+noughts(many)+"e5", 0)
	checkFloat(t, "0."+strings.Repeat("9", many), 1)
	checkFloat(t, "0."+strings.Repeat("3", many), 1.0/3)
	checkFloat(t, "1e"+noughts(many)+"2", 100)
	checkFloat(t, "1e-"+noughts(many)+"2", 0.01)
	checkFloat(t, "1e+"+noughts(many), 1)
	checkFloat(t, "1e-"+strings.Repeat("9", many), 0)
	checkError(t, "1e"+strings.Repeat("9", many), api.ErrBig)
	checkError(t, "-0."+noughts(many)+"1e"+strings.Repeat("9", many), api.ErrBig)
	checkFloat(t, "-1"+noughts(many)+"e-"+strings.Repeat("9", many), minusZero)
	for _, e := range []string{"4294967296", "4294967297", "9223372036854775807", "9223372036854775808", "18446744073709551616", "18446744073709551617"} {
		checkError(t, "1e"+e, api.ErrBig)
		checkFloat(t, "1e-"+e, 0)
	}
	for n := range 40 {
		at := 9980 + n
		checkFloat(t, "0."+noughts(at)+"25e"+strconv.Itoa(at+1), 2.5)
		checkFloat(t, "25"+noughts(at)+"e-"+strconv.Itoa(at+1), 2.5)
	}
}

// TestReadAcrossPowers moves the point of one number against its exponent, at the ends of the range of floats too.
func TestReadAcrossPowers(t *testing.T) {
	for power := -420; power <= 420; power++ {
		for _, digits := range []string{"1", "17976931348623157", "17976931348623158", "17976931348623159", "49406564584124654", "2470328229206232720", "2470328229206232721"} {
			texts := []string{
				digits + "e" + strconv.Itoa(power),
				"0." + digits + "E" + strconv.Itoa(power),
				digits + noughts(30) + "e" + strconv.Itoa(power-30),
				"0." + noughts(30) + digits + "e" + strconv.Itoa(power+30),
			}
			for _, s := range texts {
				want, e := numOf(t, s)
				checkNum(t, s, want, e)
				want, e = numOf(t, "-"+s)
				checkNum(t, "-"+s, want, e)
			}
		}
	}
}

// halfAbove is the exact decimal text of the number half way between a float and the one above it.
func halfAbove(f float64) string {
	sum := new(big.Rat).SetFloat64(f)
	above := math.Nextafter(f, math.Inf(1))
	if math.IsInf(above, 1) {
		next := new(big.Int).Lsh(big.NewInt(1), 1024)
		sum.Add(sum, new(big.Rat).SetInt(next))
	} else {
		sum.Add(sum, new(big.Rat).SetFloat64(above))
	}
	sum.Quo(sum, big.NewRat(2, 1))
	// A float's half has at most 1075 binary places, so as many decimal ones.
	return strings.TrimRight(sum.FloatString(1075), "0")
}

func evenOf(a, b float64) float64 {
	if math.Float64bits(a)%2 == 0 {
		return a
	}
	return b
}

func checkHalf(t *testing.T, f float64) {
	t.Helper()
	above := math.Nextafter(f, math.Inf(1))
	half := halfAbove(f)
	if strings.HasSuffix(half, ".") {
		half += "0"
	}
	below := half[:len(half)-1]
	switch last := half[len(half)-1]; {
	case last != '0':
		below += string(last-1) + strings.Repeat("9", 900)
	default:
		whole, _ := new(big.Int).SetString(strings.TrimSuffix(half, ".0"), 10)
		below = whole.Sub(whole, big.NewInt(1)).String() + "." + strings.Repeat("9", 2000)
	}
	checkFloat(t, below, f)
	checkFloat(t, "-"+below, -f)
	if math.IsInf(above, 1) {
		checkError(t, half, api.ErrBig)
		checkError(t, "-"+half, api.ErrBig)
		return
	}
	checkFloat(t, half, evenOf(f, above))
	checkFloat(t, "-"+half, -evenOf(f, above))
	checkFloat(t, half+noughts(3000), evenOf(f, above))
	checkFloat(t, half+noughts(3000)+"1", above)
	checkFloat(t, "-"+half+noughts(3000)+"1", -above)
}

func TestReadHalfWay(t *testing.T) {
	floats := []float64{
		0, math.SmallestNonzeroFloat64, 2 * math.SmallestNonzeroFloat64, math.Float64frombits(1<<52 - 1), math.Float64frombits(1 << 52),
		math.Float64frombits(1<<53 - 1), 0.1, 1, math.Nextafter(1, 0), 1.5, 9007199254740992, 9007199254740994, 1e16, 1e22, 1e23, 1e300,
		math.MaxFloat64, math.Nextafter(math.MaxFloat64, 0),
	}
	source := rand.New(rand.NewSource(2))
	for range 200 {
		floats = append(floats, randomFloat(source))
	}
	for _, f := range floats {
		checkHalf(t, f)
	}
	checkFloat(t, "9007199254740993.0", 9007199254740992)
	checkFloat(t, "9007199254740993.00001", 9007199254740994)
	checkFloat(t, "9007199254740995.0", 9007199254740996)
	checkFloat(t, "9007199254740993."+noughts(100000)+"1", 9007199254740994)
}

// randomFloat is a finite float above 0 of any exponent.
func randomFloat(source *rand.Rand) float64 {
	for {
		if f := math.Float64frombits(source.Uint64() >> 1); f > 0 && !math.IsInf(f, 0) {
			return f
		}
	}
}

func TestReadRandomTexts(t *testing.T) {
	source := rand.New(rand.NewSource(1))
	for range 20000 {
		digits := make([]byte, 1+source.Intn(40))
		for i := range digits {
			digits[i] = byte('0' + source.Intn(10))
		}
		s := strconv.Itoa(source.Intn(100))
		if source.Intn(2) == 0 {
			s = strings.TrimLeft(string(digits), "0") + s
		}
		if source.Intn(2) == 0 {
			s += "." + string(digits)
		}
		if source.Intn(2) == 0 {
			s += "e" + strconv.Itoa(source.Intn(800)-400)
		}
		if source.Intn(2) == 0 {
			s = "-" + s
		}
		if !isNumber(s) {
			continue
		}
		want, e := numOf(t, s)
		checkNum(t, s, want, e)
	}
}
