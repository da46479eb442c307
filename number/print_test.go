package number

import (
	"math"
	"math/rand"
	"strconv"
	"strings"
	"testing"

	"decant/api"
)

type printing struct {
	bits  uint64
	token string
}

func TestP4Examples(t *testing.T) {
	for _, c := range []printing{
		{0x3fb999999999999a, "0.1"},
		{1, "5e-324"},
		{0x444b1ae4d6e2ef50, "1e+21"},
		{0x4415af1d78b58c40, "100000000000000000000"},
		{0x3eb0c6f7a0b5ed8d, "0.000001"},
		{0x3e7ad7f29abcaf48, "1e-7"},
		{0x8000000000000000, "-0"},
		{0, "0"},
	} {
		wantPrint(t, c.bits, c.token)
	}
}

// TestP4Layouts has each layout, the ends of each, and what lies beyond them. The tokens are the shortest of
// their numbers, so that Print of what they are read as is to be the same.
func TestP4Layouts(t *testing.T) {
	for _, token := range []string{
		// p is 1 to 21, x is 0 or more
		"1", "9", "10", "12", "120", "9007199254740991", "9007199254740992", "12345678901234567000",
		"100000000000000000000", "123456789012345680000", "999999999999999900000",
		// p is 1 to 21, x is below 0
		"1.5", "9.5", "12.5", "3.141592653589793", "123456789.12345679", "1234567890123456.8", "4503599627370495.5",
		// p is -5 to 0
		"0.1", "0.5", "0.12", "0.01", "0.001", "0.0001", "0.00001", "0.000001", "0.0000012", "0.0000099",
		"0.9999999999999999", "0.0000012345678901234567",
		// p is above 21
		"1e+21", "1.2e+21", "1.2345678901234568e+21", "9.999999999999998e+21", "1e+22", "1e+23", "5e+99", "1.5e+100", "1e+308", "1.7976931348623157e+308",
		// p is below -5
		"1e-7", "9e-7", "9.9e-7", "9.999999999999997e-7", "1.2345678901234568e-7", "1e-8", "1e-9", "1e-10", "1.5e-99", "1e-100", "2.5e-323", "2.2250738585072014e-308",
	} {
		bits, e := Parse(token)
		if e != api.OK {
			t.Errorf("Parse(%q) = %d", token, e)
		}
		wantPrint(t, bits, token)
		wantPrint(t, bits|signBit, "-"+token)
	}
}

// TestP4LayoutBesideBounds has the numbers next to 10^21 and to 10^-6.
func TestP4LayoutBesideBounds(t *testing.T) {
	for _, c := range []printing{
		{0x444b1ae4d6e2ef4f, "999999999999999900000"},
		{0x444b1ae4d6e2ef51, "1.0000000000000001e+21"},
		{0x3eb0c6f7a0b5ed8c, "9.999999999999997e-7"},
		{0x3eb0c6f7a0b5ed8e, "0.0000010000000000000002"},
	} {
		wantPrint(t, c.bits, c.token)
	}
}

func TestP4Smallest(t *testing.T) {
	for i, token := range []string{"5e-324", "1e-323", "1.5e-323", "2e-323", "2.5e-323", "3e-323", "3.5e-323", "4e-323", "4.4e-323", "5e-323", "5.4e-323"} {
		wantPrint(t, uint64(i+1), token)
	}
	wantPrint(t, 1<<52-1, "2.225073858507201e-308")
	wantPrint(t, 1<<52, "2.2250738585072014e-308")
	wantPrint(t, 1<<52+1, "2.225073858507202e-308")
}

func TestP4Greatest(t *testing.T) {
	wantPrint(t, greatest, "1.7976931348623157e+308")
	wantPrint(t, greatest|signBit, "-1.7976931348623157e+308")
	wantPrint(t, greatest-1, "1.7976931348623155e+308")
}

// TestP4EquallyNear has numbers with two shortest tokens that are equally near.
func TestP4EquallyNear(t *testing.T) {
	for _, c := range []printing{
		{0x4310000000000001, "1125899906842624.2"}, // .25
		{0x4310000000000003, "1125899906842624.8"}, // .75
		{0x4310000000000005, "1125899906842625.2"},
		{0x4310000000000007, "1125899906842625.8"},
		{0xc310000000000001, "-1125899906842624.2"},
		{0xc310000000000003, "-1125899906842624.8"},
	} {
		wantPrint(t, c.bits, c.token)
	}
}

// TestP4Ends has numbers whose shortest token lies just half way to a neighbour: it counts where their f is
// even, and not where it is odd.
func TestP4Ends(t *testing.T) {
	for _, c := range []printing{
		{0x44b52d02c7e14af6, "1e+23"},
		{0x44b52d02c7e14af7, "1.0000000000000001e+23"},
		{0x4350000000000001, "18014398509481988"},
		{0x4350000000000002, "18014398509481990"},
	} {
		wantPrint(t, c.bits, c.token)
	}
}

// TestP4PowersOfTwo has numbers whose neighbour below lies half as far away as the one above.
func TestP4PowersOfTwo(t *testing.T) {
	for _, c := range []printing{
		{0x4340000000000000, "9007199254740992"},
		{0x4350000000000000, "18014398509481984"},
		{0x4360000000000000, "36028797018963970"},
		{0x0060000000000000, "7.120236347223045e-307"},
		{0x7340000000000000, "1.3983839803942852e+247"}, // not ..85e+247
		{0x7ef0000000000000, "2.7430620343968443e+303"}, // not ..44e+303
	} {
		wantPrint(t, c.bits, c.token)
	}
}

func TestP4NoNumber(t *testing.T) {
	for _, bits := range []uint64{noNumber, noNumber + 1, noNumber | 1<<51, signBit - 1} {
		for _, b := range []uint64{bits, bits | signBit} {
			if token, e := Print(b); token != "" || e != api.ErrArg || Is(b) {
				t.Errorf("Print(%x) = %q, %d, want ErrArg; Is tells %v", b, token, e, Is(b))
			}
		}
	}
}

func wantBest(t *testing.T, magnitude uint64) {
	t.Helper()
	wantDigits, wantPower := best(t, magnitude)
	digits, power := shortest(magnitude)
	if digits != wantDigits || power != wantPower {
		t.Errorf("the digits of %x are %d, times ten to %d, want %d, to %d", magnitude, digits, power, wantDigits, wantPower)
	}
}

// TestP4Best holds the digits against those that are found by trying all.
func TestP4Best(t *testing.T) {
	for n := uint64(1); n <= 1200; n++ {
		wantBest(t, n)
	}
	for e := uint64(1); e < 2047; e++ {
		wantBest(t, e<<52)
	}
	for i := range uint64(400) {
		wantBest(t, 0x4310000000000000+i) // many equally near ones
		wantBest(t, greatest-i)
	}
	r := rand.New(rand.NewSource(5))
	for range 2000 {
		if n := drawn(r); n != 0 {
			wantBest(t, n)
		}
	}
}

// TestP11Ordinary: ordinary numbers and those at the ends of the range are read as they were printed.
func TestP11Ordinary(t *testing.T) {
	numbers := []uint64{0, 1, 2, 1<<52 - 1, 1 << 52, 1<<52 + 1, greatest - 1, greatest, 0x3fb999999999999a, 0x3fd5555555555555, 0x400921fb54442d18, 0x4340000000000000, 0x444b1ae4d6e2ef4f, 0x444b1ae4d6e2ef50, 0x3eb0c6f7a0b5ed8c, 0x3eb0c6f7a0b5ed8d, 0x3e7ad7f29abcaf48}
	for n := range 1000 {
		numbers = append(numbers, math.Float64bits(float64(n)), math.Float64bits(float64(n)/100), math.Float64bits(float64(n)*1e20), math.Float64bits(float64(n)*1e-9))
	}
	for _, n := range numbers {
		for _, bits := range []uint64{n, n | signBit} {
			token, e := Print(bits)
			if back, f := Parse(token); back != bits || e != api.OK || f != api.OK || len(token) > 25 {
				t.Errorf("%x: %q, %d, is read as %x, %d", bits, token, e, back, f)
			}
		}
	}
}

// TestP11PrintIsReadBack leans on the layouts being tokens, too: Parse takes nothing else.
func TestP11PrintIsReadBack(t *testing.T) {
	r := rand.New(rand.NewSource(6))
	for range 30000 {
		bits := drawn(r) | uint64(r.Intn(2))<<63
		token, e := Print(bits)
		if e != api.OK || len(token) > 25 {
			t.Fatalf("Print(%x) = %q, %d", bits, token, e)
		}
		if back, e := Parse(token); back != bits || e != api.OK {
			t.Fatalf("Parse(Print(%x)), of %q, = %x, %d", bits, token, back, e)
		}
	}
	longest := "-0.0000012345678901234567"
	bits, _ := Parse(longest)
	wantPrint(t, bits, longest)
}

func TestDigitsOf(t *testing.T) {
	for _, n := range []uint64{0, 1, 9, 10, 99, 100, 324, 1<<53 + 1, 10000000000000000, 99999999999999999, 1<<64 - 1} {
		if got := digitsOf(n); got != strconv.FormatUint(n, 10) {
			t.Errorf("digitsOf(%d) = %q", n, got)
		}
	}
}

func TestLayOutIsExact(t *testing.T) {
	for power := -340; power <= 310; power++ {
		for _, digits := range []uint64{1, 12, 12345678901234567} {
			token := layOut(digits, power)
			var read Token
			for _, b := range []byte(token) {
				if !read.Next(b) {
					t.Fatalf("layOut(%d, %d) = %q is no token", digits, power, token)
				}
			}
			d := read.decimal()
			want := strconv.FormatUint(digits, 10)
			if strings.TrimRight(string(d.digits), "0") != want || d.point != len(want)+power {
				t.Errorf("layOut(%d, %d) = %q", digits, power, token)
			}
		}
	}
}

// TestP1AnyBits: every call ends, with a token or an error and nothing else.
func TestP1AnyBits(t *testing.T) {
	r := rand.New(rand.NewSource(7))
	for range 20000 {
		bits := r.Uint64()
		if r.Intn(4) == 0 {
			bits |= noNumber
		}
		token, e := Print(bits)
		isNone := bits&noNumber == noNumber
		if isNone != (e == api.ErrArg) || isNone != (token == "") || !isNone && e != api.OK || isNone == Is(bits) {
			t.Fatalf("Print(%x) = %q, %d", bits, token, e)
		}
	}
}
