package number

import (
	"strconv"
	"strings"
	"testing"

	"decant/api"
)

// wantLost asks that a token is lost from the byte at a place on, and not ahead of it.
func wantLost(t *testing.T, token string, at int) {
	t.Helper()
	var read Token
	for i := range len(token) {
		if !read.Next(token[i]) {
			t.Fatalf("%.60q does not go on at %d", token, i)
		}
		if read.Lost() != (i >= at) {
			t.Errorf("%.60q (%d bytes): Lost is %v at %d", token, len(token), read.Lost(), i)
		}
	}
}

func TestTokenLost(t *testing.T) {
	bound, _, _ := strings.Cut(halfWay(greatest), ".")
	below := bound[:len(bound)-1] + "1"
	const never = 1 << 30
	for token, at := range map[string]int{
		"1": never, "1e308": never, "1e309": 4, "-1e+3090": 6, "1e03099": 5, "1.8e3080": 6, "0.00001e3140": 10,
		bound: never, bound + "e": never, bound + "e+": 310, bound + "e00": 310, bound + ".5E1": 312, bound + "e-0": never, bound + "e-12": never, bound + ".5": never,
		below: never, below + "e+": never, below + "e+00": never, below + "e01": 311, below + ".9e10": 312,
		bound[:300] + "e10": 302, bound[:300] + "e9": never, bound[:300] + "e8": never, bound[:300] + "9e8": 302,
		"0e" + strings.Repeat("9", 1000): never, "0.000e+9": never, "1e-999": never,
		"1" + strings.Repeat("0", 309) + "e+0": 311, "1" + strings.Repeat("0", 308) + "e+00": never,
		"0." + strings.Repeat("0", 400) + "1e7100": 406, "0." + strings.Repeat("0", 400) + "1e709": never, "0." + strings.Repeat("0", 400) + "2e709": 406,
	} {
		wantLost(t, token, at)
	}
}

// TestTokenNext: a byte that does not go on with a token changes nothing in it.
func TestTokenNext(t *testing.T) {
	for _, token := range []string{"", "-", "0", "-0", "12", "1.", "0.5", "-1.25", "1e", "1E+", "1e-", "1e5", "1.5e+07", "-0.5E-3"} {
		var read Token
		for i := range len(token) {
			if !read.Next(token[i]) {
				t.Fatalf("%q does not go on at %d", token, i)
			}
		}
		for n := range 256 {
			b := byte(n)
			goesOn := beginsToken(token + string([]byte{b}))
			again := read
			if again.Next(b) != goesOn {
				t.Errorf("%q and %q: going on is not %v", token, b, goesOn)
			}
			bits, e := again.Value()
			if want, f := Parse(token); !goesOn && (bits != want || e != f) {
				t.Errorf("%q is changed by %q: %x, %d, want %x, %d", token, b, bits, e, want, f)
			}
		}
	}
}

// beginsToken tells whether a text can be gone on with to a token.
func beginsToken(text string) bool {
	return isToken(text) || isToken(text+"0")
}

// TestTokenKeepsLittle: what is kept of a token does not grow with it.
func TestTokenKeepsLittle(t *testing.T) {
	var read Token
	for range 100000 {
		read.Next('9')
	}
	read.Next('.')
	for range 100000 {
		read.Next('9')
	}
	if n := cap(read.mantissa.digits); n > 2*enoughDigits {
		t.Errorf("room for %d digits", n)
	}
	for _, b := range []byte("e-" + strconv.Itoa(100000)) {
		read.Next(b)
	}
	if bits, e := read.Value(); bits != 0x3ff0000000000000 || e != api.OK {
		t.Errorf("%x, %d", bits, e)
	}
}
