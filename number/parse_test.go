package number

import (
	"math"
	"math/rand"
	"strconv"
	"strings"
	"testing"

	"decant/api"
)

type reading struct {
	token string
	bits  uint64
}

func TestP3Examples(t *testing.T) {
	for _, c := range []reading{
		{"1", 0x3ff0000000000000},
		{"-0", 0x8000000000000000},
		{"0.1", 0x3fb999999999999a},
		{"9007199254740993", 0x4340000000000000},
		{"5e-324", 1},
		{"2e-324", 0},
		{"1.7976931348623158e308", 0x7fefffffffffffff},
	} {
		wantParse(t, c.token, c.bits)
	}
	wantParseError(t, "1.7976931348623159e308", api.ErrRange)
	for _, token := range []string{"01", "1.", "+1", ".5", "1e"} {
		wantParseError(t, token, api.ErrSyntax)
	}
}

func TestP3Ordinary(t *testing.T) {
	for _, c := range []reading{
		{"0", 0},
		{"2", 0x4000000000000000},
		{"10", 0x4024000000000000},
		{"-1.5", 0xbff8000000000000},
		{"0.5", 0x3fe0000000000000},
		{"1e2", 0x4059000000000000},
		{"1E2", 0x4059000000000000},
		{"1e+2", 0x4059000000000000},
		{"1E+02", 0x4059000000000000},
		{"-100e-2", 0xbff0000000000000},
		{"0.0625E+0004", 0x4083880000000000},
		{"123456789012345678901234567890", 0x45f8ee90ff6c373e},
		{"1e22", 0x4480f0cf064dd592},
		{"1e23", 0x44b52d02c7e14af6},
		{"2.2250738585072011e-308", 0x000fffffffffffff},
		{"2.2250738585072014e-308", 0x0010000000000000},
	} {
		wantParse(t, c.token, c.bits)
	}
}

func TestP3SignOfZero(t *testing.T) {
	for _, token := range []string{"0", "0.0", "0e5", "0E-5", "0.000e+99999999999999999999", "1e-400", "0.1e-99999999999999999999", "2.4e-324"} {
		wantParse(t, token, 0)
		wantParse(t, "-"+token, signBit)
	}
}

// wantHalfWay asks for what lies half way above a number, and beside that.
func wantHalfWay(t *testing.T, n uint64) {
	t.Helper()
	half, even := halfWay(n), n+n%2
	wantParse(t, half, even)
	wantParse(t, "-"+half, even|signBit)
	wantParse(t, half+strings.Repeat("0", 500), even)
	wantParse(t, half+strings.Repeat("0", 500)+"1", n+1)
	wantParse(t, justBelow(half), n)
}

func TestP3HalfWay(t *testing.T) {
	for _, n := range []uint64{0, 1, 2, 3, 1<<52 - 2, 1<<52 - 1, 1 << 52, 1<<52 + 1, 2<<52 - 1, 2 << 52, 1023 << 52, 1024<<52 - 1, 1075 << 52, 1075<<52 + 1, 1076<<52 + 1, greatest - 2, greatest - 1} {
		wantHalfWay(t, n)
	}
	r := rand.New(rand.NewSource(3))
	for range 400 {
		n := drawn(r)
		if n < greatest {
			wantHalfWay(t, n)
		}
	}
}

func TestP3BoundOfRange(t *testing.T) {
	bound := halfWay(greatest)
	whole, _, _ := strings.Cut(bound, ".")
	below := justBelow(bound)
	wantParse(t, below, greatest)
	wantParse(t, "-"+below, greatest|signBit)
	wantParse(t, "0."+strings.Replace(below, ".", "", 1)+"e309", greatest)
	for _, token := range []string{
		bound, whole, whole + "e0", whole + "0e-1", whole + ".000", bound + "1", whole[:1] + "." + whole[1:] + "E+308",
		"1.8e308", "2e308", "1e309", "10e308", "0.01e311", "1e99999999999999999999999999",
		"1" + strings.Repeat("0", 309), "9" + strings.Repeat("9", 100000), strings.Repeat("7", 1000) + "e-600",
	} {
		wantParseError(t, token, api.ErrRange)
		wantParseError(t, "-"+token, api.ErrRange)
	}
	wantParse(t, "1"+strings.Repeat("0", 308), 0x7fe1ccf385ebc8a0)
	wantParse(t, "1e308", 0x7fe1ccf385ebc8a0)
}

func TestP3Smallest(t *testing.T) {
	for _, c := range []reading{
		{"4.9406564584124654e-324", 1},
		{"3e-324", 1},
		{"2.5e-324", 1},
		{"2.4703282292062327e-324", 0},
		{"2.4703282292062328e-324", 1},
		{"7.4e-324", 1},
		{"7.5e-324", 2},
		{"1e-323", 2},
		{"9.9e-325", 0},
		{"1e-324", 0},
		{"99e-326", 0},
		{"0.0003e-320", 1},
		{"300000e-329", 1},
	} {
		wantParse(t, c.token, c.bits)
	}
}

func TestP3ManyDigits(t *testing.T) {
	zeros := strings.Repeat("0", 1000000)
	for _, c := range []reading{
		{"1" + zeros + "e-1000000", 0x3ff0000000000000},
		{"0." + zeros + "1e1000001", 0x3ff0000000000000},
		{"0." + zeros + "1", 0},
		{"0." + zeros, 0},
		{"1." + zeros, 0x3ff0000000000000},
		{"1." + zeros + "1", 0x3ff0000000000000},
		{"1e" + zeros + "2", 0x4059000000000000},
		{"1e-" + zeros + "1", 0x3fb999999999999a},
		{"1e-" + zeros, 0x3ff0000000000000},
		{"9007199254740993." + zeros, 0x4340000000000000},
		{"9007199254740993." + zeros + "1", 0x4340000000000001},
		{"9007199254740993" + zeros + "1e-1000001", 0x4340000000000001},
		{"9007199254740993" + zeros + "0e-1000001", 0x4340000000000000},
		{"0.3" + strings.Repeat("3", 1000000), 0x3fd5555555555555},
		{"0." + strings.Repeat("9", 1000000), 0x3ff0000000000000},
	} {
		wantParse(t, c.token, c.bits)
		wantParse(t, "-"+c.token, c.bits|signBit)
	}
	wantParseError(t, "1"+zeros, api.ErrRange)
	wantParseError(t, "1"+zeros+"e-999600", api.ErrRange)
	wantParseError(t, "0."+zeros+"1e1000400", api.ErrRange)
}

func TestP3GreatExponents(t *testing.T) {
	for _, exponent := range []string{"400", "2147483648", "4294967296", "4294967297", "9223372036854775807", "9223372036854775808", "18446744073709551616", "18446744073709551617", strings.Repeat("9", 1000)} {
		wantParseError(t, "1e"+exponent, api.ErrRange)
		wantParseError(t, "-0.001E+"+exponent, api.ErrRange)
		wantParse(t, "9999e-"+exponent, 0)
		wantParse(t, "-9999e-"+exponent, signBit)
		wantParse(t, "0e"+exponent, 0)
		wantParse(t, "-0.00e+"+exponent, signBit)
	}
}

func TestP3NoTokens(t *testing.T) {
	for _, token := range []string{
		"", "-", "+", "+0", "--0", "-+1", "00", "-00", "01", "-01.5", "00.1", "0-", "1-", "1+1",
		".", ".5", "-.5", "1.", "-1.", "1.e5", "1..2", "1.2.3", "1.-2", "1,5",
		"e", "e5", "-e5", "1e", "1E", "1e+", "1e-", "1e+-1", "1e--1", "1ee1", "1eE1", "1e1e1", "1e1.", "1e1.5", "1e1+", "0e", "0.0e",
		" 1", "1 ", "1\n", "\t1", "1\x00", "\x001", "- 1", "1 e5",
		"0x1", "0x1p5", "1p5", "0b1", "0o7", "1_000", "1f", "1d5", "Infinity", "-Infinity", "inf", "NaN", "nan", "null", "\"1\"",
		"\u0663", "1\u0663", "\xff", "1\xff", "1e\xff", "\uff11", "/", ":", "1/", "1:", "1./", "1.:", "1e/", "1e:",
		"1e999999999999999999999x", "1" + strings.Repeat("0", 400) + "x", strings.Repeat("1", 100000) + ".",
	} {
		wantParseError(t, token, api.ErrSyntax)
	}
}

// TestP3EveryShortText tries all texts of up to five bytes of those that tokens are made of, and some others.
func TestP3EveryShortText(t *testing.T) {
	texts := []string{""}
	for range 5 {
		var longer []string
		for _, text := range texts {
			for _, b := range []byte("019-+.eE x") {
				longer = append(longer, text+string(b))
			}
		}
		for _, text := range longer {
			bits, e := Parse(text)
			want, ok := uint64(0), isToken(text)
			if ok {
				x, _ := strconv.ParseFloat(text, 64)
				want = math.Float64bits(x)
			}
			switch {
			case !ok && (bits != 0 || e != api.ErrSyntax):
				t.Fatalf("Parse(%q) = %x, %d, want ErrSyntax", text, bits, e)
			case ok && want&^signBit == noNumber && (bits != 0 || e != api.ErrRange):
				t.Fatalf("Parse(%q) = %x, %d, want ErrRange", text, bits, e)
			case ok && want&^signBit != noNumber && (bits != want || e != api.OK):
				t.Fatalf("Parse(%q) = %x, %d, want %x", text, bits, e, want)
			}
		}
		texts = longer
	}
}

// isToken is the document's 'TOKEN' as a table of states.
func isToken(text string) bool {
	const digits = "0123456789"
	state := "start"
	for _, b := range []byte(text) {
		digit := strings.IndexByte(digits, b) >= 0
		mark, sign, point := b == 'e' || b == 'E', b == '+' || b == '-', b == '.'
		switch {
		case state == "start" && b == '-':
			state = "minus"
		case (state == "start" || state == "minus") && b == '0':
			state = "zero"
		case (state == "start" || state == "minus" || state == "whole") && digit:
			state = "whole"
		case (state == "zero" || state == "whole") && point:
			state = "point"
		case (state == "point" || state == "fraction") && digit:
			state = "fraction"
		case (state == "zero" || state == "whole" || state == "fraction") && mark:
			state = "mark"
		case state == "mark" && sign:
			state = "sign"
		case (state == "mark" || state == "sign" || state == "exponent") && digit:
			state = "exponent"
		default:
			return false
		}
	}
	return state == "zero" || state == "whole" || state == "fraction" || state == "exponent"
}

// TestP3Drawn holds drawn tokens against the library's reading.
func TestP3Drawn(t *testing.T) {
	r := rand.New(rand.NewSource(4))
	for range 30000 {
		token := drawnToken(r)
		x, err := strconv.ParseFloat(token, 64)
		if err != nil {
			wantParseError(t, token, api.ErrRange)
		} else {
			wantParse(t, token, math.Float64bits(x))
		}
		if t.Failed() {
			return
		}
	}
}

func drawnToken(r *rand.Rand) string {
	digits := func(n int) string {
		text := make([]byte, n)
		for i := range text {
			text[i] = '0' + byte(r.Intn(10))
		}
		return string(text)
	}
	token := strings.Repeat("-", r.Intn(2)) + "0"
	if r.Intn(3) > 0 {
		token = token[:len(token)-1] + string('1'+byte(r.Intn(9))) + digits(r.Intn(25))
	}
	if r.Intn(3) > 0 {
		token += "." + strings.Repeat("0", r.Intn(8)) + digits(1+r.Intn(1+r.Intn(40)))
	}
	if r.Intn(3) > 0 {
		token += []string{"e", "E", "e+", "E-", "e-"}[r.Intn(5)] + strconv.Itoa(r.Intn(1+r.Intn(345)))
	}
	return token
}

func FuzzParse(f *testing.F) {
	for _, token := range []string{"0", "-1.5e-7", "1e400", "01", "1e", "9007199254740993"} {
		f.Add(token)
	}
	f.Fuzz(func(t *testing.T, token string) {
		bits, e := Parse(token)
		if !isToken(token) {
			wantParseError(t, token, api.ErrSyntax)
			return
		}
		x, err := strconv.ParseFloat(token, 64)
		if err != nil && e != api.ErrRange || err == nil && (e != api.OK || bits != math.Float64bits(x)) {
			t.Fatalf("Parse(%q) = %x, %d, want %x, %v", token, bits, e, math.Float64bits(x), err)
		}
	})
}
