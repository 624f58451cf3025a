package number_test

import (
	"math"
	"math/big"
	"math/rand"
	"strconv"
	"strings"
	"testing"

	"pergola/api"
	"pergola/number"
)

func TestWholeText(t *testing.T) {
	wholes := map[int64]string{
		0: "0", 1: "1", -1: "-1", 7: "7", 10: "10", -10: "-10", 99: "99", 100: "100", 1200: "1200", -907: "-907",
		math.MaxInt32: "2147483647", math.MinInt32: "-2147483648",
		math.MaxInt64: "9223372036854775807", math.MinInt64: "-9223372036854775808", math.MinInt64 + 1: "-9223372036854775807",
	}
	for n, want := range wholes {
		if got := number.WholeText(n); got != want {
			t.Errorf("WholeText(%d) = %q", n, got)
		}
	}
	source := rand.New(rand.NewSource(3))
	for range 10000 {
		n := int64(source.Uint64()) >> source.Intn(64)
		got := number.WholeText(n)
		if got != big.NewInt(n).String() {
			t.Errorf("WholeText(%d) = %q", n, got)
		}
		checkInt(t, got, n)
	}
}

func TestFloatTextExamples(t *testing.T) {
	sum := 0.1
	sum += 0.2
	texts := []struct {
		f    float64
		want string
	}{
		{0, "0.0"}, {minusZero, "-0.0"}, {math.NaN(), ""}, {math.Inf(1), ""}, {math.Inf(-1), ""},
		{math.Float64frombits(0x7ff0000000000001), ""}, {math.Float64frombits(0xfff8000000000000), ""},
		{1, "1.0"}, {-1, "-1.0"}, {100, "100.0"}, {-1.5, "-1.5"}, {0.1, "0.1"}, {sum, "0.30000000000000004"},
		{1e23, "1e23"}, {1e22, "1e22"}, {1e21, "1e21"}, {1e20, "100000000000000000000.0"}, {123456789012345680000, "123456789012345680000.0"},
		{999999999999999900000, "999999999999999900000.0"}, {1.5e21, "1.5e21"}, {-1e21, "-1e21"},
		{1234567.5, "1234567.5"}, {123456789012345.6, "123456789012345.6"}, {9007199254740991, "9007199254740991.0"},
		{9007199254740993, "9007199254740992.0"}, {9223372036854775807, "9223372036854776000.0"},
		{0.01, "0.01"}, {0.00001, "0.00001"}, {0.000001, "0.000001"}, {0.0000012345, "0.0000012345"}, {-0.00000999, "-0.00000999"},
		{1e-7, "1e-7"}, {9.99e-7, "9.99e-7"}, {1.25e-9, "1.25e-9"}, {-1e-10, "-1e-10"}, {5e-324, "5e-324"}, {1e-323, "1e-323"}, {1.5e-323, "1.5e-323"},
		{2.2250738585072014e-308, "2.2250738585072014e-308"}, {2.225073858507201e-308, "2.225073858507201e-308"},
		{math.MaxFloat64, "1.7976931348623157e308"}, {-math.MaxFloat64, "-1.7976931348623157e308"}, {1e100, "1e100"}, {1e-100, "1e-100"},
		// Half way between two decimal numbers of the fewest digits.
		{562949953421312.25, "562949953421312.2"}, {562949953421312.75, "562949953421312.8"}, {562949953421313.25, "562949953421313.2"},
	}
	for _, c := range texts {
		if got := number.FloatText(c.f); got != c.want {
			t.Errorf("FloatText(%b) = %q; want %q", c.f, got, c.want)
		}
	}
}

func powerOfTen(n int) *big.Rat {
	p := new(big.Int).Exp(big.NewInt(10), big.NewInt(int64(max(n, -n))), nil)
	if n < 0 {
		return new(big.Rat).SetFrac(big.NewInt(1), p)
	}
	return new(big.Rat).SetInt(p)
}

// powerAbove is the p with 10^(p-1) at most a, and a below 10^p.
func powerAbove(a *big.Rat) int {
	f, _ := a.Float64()
	p := int(math.Floor(math.Log10(f))) + 1
	for a.Cmp(powerOfTen(p)) >= 0 {
		p++
	}
	for a.Cmp(powerOfTen(p-1)) < 0 {
		p--
	}
	return p
}

// nearestWith is the nearest decimal number of at most n digits whose float is f, as a whole number of ten to the power of the second result; nil, if there is none.
func nearestWith(f float64, exact *big.Rat, p, n int) (*big.Int, int) {
	unit := powerOfTen(p - n)
	scaled := new(big.Rat).Quo(exact, unit)
	low := new(big.Int).Quo(scaled.Num(), scaled.Denom())
	var best *big.Int
	var bestAway *big.Rat
	for _, c := range []*big.Int{low, new(big.Int).Add(low, big.NewInt(1))} {
		v := new(big.Rat).Mul(new(big.Rat).SetInt(c), unit)
		if back, _ := v.Float64(); back != f {
			continue
		}
		away := new(big.Rat).Sub(v, exact)
		away.Abs(away)
		nearer := -1
		if best != nil {
			nearer = away.Cmp(bestAway)
		}
		if nearer < 0 || nearer == 0 && c.Bit(0) == 0 {
			best, bestAway = c, away
		}
	}
	return best, p - n
}

// textOf is what FloatText must answer of a finite float above 0, by the promise's words.
func textOf(f float64) string {
	exact := new(big.Rat).SetFloat64(f)
	above := powerAbove(exact)
	var whole *big.Int
	power := 0
	for n := 1; whole == nil; n++ {
		whole, power = nearestWith(f, exact, above, n)
	}
	written := whole.String()
	p := len(written) + power
	digits := strings.TrimRight(written, "0")
	decimal := new(big.Rat).Mul(new(big.Rat).SetInt(whole), powerOfTen(power))
	if p >= -5 && p <= 21 {
		return decimal.FloatString(max(1, len(digits)-p))
	}
	text := digits[:1]
	if len(digits) > 1 {
		text += "." + digits[1:]
	}
	return text + "e" + strconv.Itoa(p-1)
}

func checkText(t *testing.T, f float64) {
	t.Helper()
	want := textOf(f)
	if got := number.FloatText(f); got != want {
		t.Errorf("FloatText(%b) = %q; want %q", f, got, want)
	}
	if got := number.FloatText(-f); got != "-"+want {
		t.Errorf("FloatText(%b) = %q; want %q", -f, got, "-"+want)
	}
	checkFloat(t, number.FloatText(f), f)
	checkFloat(t, number.FloatText(-f), -f)
}

// around checks a float and its neighbours.
func around(t *testing.T, f float64) {
	t.Helper()
	for _, g := range []float64{math.Nextafter(f, 0), f, math.Nextafter(f, math.Inf(1))} {
		if g > 0 && !math.IsInf(g, 0) {
			checkText(t, g)
		}
	}
}

func TestFloatTextPowersOfTwo(t *testing.T) {
	for e := -1074; e <= 1023; e++ {
		around(t, math.Ldexp(1, e))
	}
}

func TestFloatTextPowersOfTen(t *testing.T) {
	for e := -323; e <= 308; e++ {
		f, err := strconv.ParseFloat("1e"+strconv.Itoa(e), 64)
		if err != nil {
			t.Fatal(err)
		}
		around(t, f)
		around(t, f/2)
		around(t, f*0.9)
	}
}

func TestFloatTextSmallest(t *testing.T) {
	for bits := uint64(1); bits <= 1500; bits++ {
		checkText(t, math.Float64frombits(bits))
	}
}

// TestFloatTextTies: such floats lie just half way between two decimal numbers with one digit less than the next length.
func TestFloatTextTies(t *testing.T) {
	for e := 43; e <= 53; e++ {
		for _, step := range []float64{0.5, 0.25, 0.125, 0.0625, 0.03125} {
			for n := 1.0; n <= 40; n++ {
				checkText(t, math.Ldexp(1, e)+n*step)
			}
		}
	}
}

func TestFloatTextRandom(t *testing.T) {
	source := rand.New(rand.NewSource(4))
	for range 3000 {
		checkText(t, randomFloat(source))
		checkText(t, math.Ldexp(source.Float64()+0.5, source.Intn(120)-60))
		checkText(t, float64(1+source.Int63n(1e12))/1000)
	}
}

// TestFloatTextForm: a float's text is never read as an Int.
func TestFloatTextForm(t *testing.T) {
	source := rand.New(rand.NewSource(5))
	for range 20000 {
		s := number.FloatText(randomFloat(source))
		end, stop, form := number.Prefix([]byte(s), 0)
		if end != len(s) || stop != len(s) || form != api.FormFraction {
			t.Errorf("%q: %d, %d, %d", s, end, stop, form)
		}
	}
}
