package number_test

import (
	"math"
	"math/big"
	"math/rand"
	"testing"

	"pergola/number"
)

// wholeOf is what Whole must answer, by exact numbers.
func wholeOf(f float64) (int64, bool) {
	if math.IsNaN(f) || math.IsInf(f, 0) {
		return 0, false
	}
	exact := new(big.Rat).SetFloat64(f)
	if !exact.IsInt() || !exact.Num().IsInt64() {
		return 0, false
	}
	return exact.Num().Int64(), true
}

func TestWholeExamples(t *testing.T) {
	cases := []struct {
		f    float64
		want int64
		ok   bool
	}{
		{0, 0, true}, {minusZero, 0, true}, {1, 1, true}, {-3, -3, true}, {2.5, 0, false}, {-0.5, 0, false},
		{9223372036854775808, 0, false}, {-9223372036854775808, math.MinInt64, true}, {9223372036854774784, 9223372036854774784, true},
		{-9223372036854777856, 0, false}, {math.NaN(), 0, false}, {math.Inf(1), 0, false}, {math.Inf(-1), 0, false},
		{math.MaxFloat64, 0, false}, {-math.MaxFloat64, 0, false}, {math.SmallestNonzeroFloat64, 0, false},
		{4503599627370495.5, 0, false}, {4503599627370496, 4503599627370496, true}, {1e18, 1e18, true}, {1e19, 0, false},
		{18446744073709551616, 0, false}, {18446744073709551616 + 4096, 0, false},
	}
	for _, c := range cases {
		if n, ok := number.Whole(c.f); n != c.want || ok != c.ok {
			t.Errorf("Whole(%v) = %d, %v", c.f, n, ok)
		}
	}
}

func TestWholeEverySize(t *testing.T) {
	source := rand.New(rand.NewSource(6))
	for e := -3; e <= 70; e++ {
		for range 100 {
			f := math.Ldexp(float64(source.Int63n(1<<20)), e-20)
			for _, g := range []float64{f, -f, math.Trunc(f), -math.Trunc(f), math.Nextafter(f, 0), math.Ldexp(1, e), math.Nextafter(math.Ldexp(1, e), 0)} {
				wantN, wantOK := wholeOf(g)
				if n, ok := number.Whole(g); n != wantN || ok != wantOK {
					t.Errorf("Whole(%v) = %d, %v; want %d, %v", g, n, ok, wantN, wantOK)
				}
			}
		}
	}
}

func checkOfWhole(t *testing.T, n int64) {
	t.Helper()
	want, exact := new(big.Rat).SetInt64(n).Float64()
	f, ok := number.OfWhole(n)
	if math.Float64bits(f) != math.Float64bits(want) || ok != exact {
		t.Errorf("OfWhole(%d) = %v, %v; want %v, %v", n, f, ok, want, exact)
	}
}

func TestOfWholeExamples(t *testing.T) {
	cases := []struct {
		n    int64
		want float64
		ok   bool
	}{
		{0, 0, true}, {-7, -7, true}, {9007199254740992, 9007199254740992, true}, {9007199254740993, 9007199254740992, false},
		{9007199254740995, 9007199254740996, false}, {-9007199254740993, -9007199254740992, false},
		{math.MaxInt64, 9223372036854775808, false}, {math.MaxInt64 - 511, 9223372036854775808, false}, {math.MaxInt64 - 512, 9223372036854774784, false},
		{math.MaxInt64 - 1023, 9223372036854774784, true}, {math.MinInt64, -9223372036854775808, true}, {math.MinInt64 + 1, -9223372036854775808, false},
	}
	for _, c := range cases {
		f, ok := number.OfWhole(c.n)
		if math.Float64bits(f) != math.Float64bits(c.want) || ok != c.ok {
			t.Errorf("OfWhole(%d) = %v, %v", c.n, f, ok)
		}
	}
}

func TestOfWholeEverySize(t *testing.T) {
	for shift := range 63 {
		for away := int64(-5); away <= 5; away++ {
			checkOfWhole(t, 1<<shift+away)
			checkOfWhole(t, -1<<shift-away)
			// Numbers half way between two floats, and their neighbours.
			half := int64(1) << shift >> 53
			checkOfWhole(t, 1<<shift+half+away)
			checkOfWhole(t, 1<<shift+3*half+away)
			checkOfWhole(t, -1<<shift-3*half-away)
		}
	}
	source := rand.New(rand.NewSource(7))
	for range 10000 {
		checkOfWhole(t, int64(source.Uint64())>>source.Intn(64))
	}
}

func TestFits(t *testing.T) {
	for _, n := range []int64{0, 1, -1, 2147483647, -2147483648, 2147483646, -2147483647} {
		if !number.Fits(n) {
			t.Errorf("Fits(%d) is false", n)
		}
	}
	for _, n := range []int64{2147483648, -2147483649, 4294967295, 4294967296, -4294967296, 4294967297, math.MaxInt64, math.MinInt64} {
		if number.Fits(n) {
			t.Errorf("Fits(%d) is true", n)
		}
	}
}

func TestSame(t *testing.T) {
	nans := []float64{
		math.NaN(), math.Float64frombits(0x7ff0000000000001), math.Float64frombits(0xfff0000000000001),
		math.Float64frombits(0x7fffffffffffffff), math.Float64frombits(0xffffffffffffffff), math.Float64frombits(0xfff8000000000000),
	}
	others := []float64{
		0, minusZero, 1, -1, 1.5, math.Nextafter(1, 2), math.SmallestNonzeroFloat64, -math.SmallestNonzeroFloat64,
		math.MaxFloat64, -math.MaxFloat64, math.Inf(1), math.Inf(-1),
	}
	for _, a := range nans {
		for _, b := range nans {
			if !number.Same(a, b) {
				t.Errorf("%x and %x are not the same", math.Float64bits(a), math.Float64bits(b))
			}
		}
		for _, b := range others {
			if number.Same(a, b) || number.Same(b, a) {
				t.Errorf("%x and %v are the same", math.Float64bits(a), b)
			}
		}
	}
	for i, a := range others {
		for j, b := range others {
			if number.Same(a, b) != (i == j) {
				t.Errorf("Same(%v, %v) = %v", a, b, i != j)
			}
		}
	}
}
