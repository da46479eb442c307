package number

import (
	"math/big"
	"math/rand"
	"strconv"
	"strings"
	"testing"

	"decant/api"
)

const greatest = 0x7fefffffffffffff

// exactly is what bits without a sign say, by the document's words; of noNumber it is the power of two above
// all numbers.
func exactly(magnitude uint64) *big.Rat {
	e, f := int(magnitude>>52), magnitude&(1<<52-1)
	if e == 0 {
		return timesPower(f, 2, -1074)
	}
	return timesPower(1<<52+f, 2, e-1075)
}

// timesPower is n times base to the power.
func timesPower(n uint64, base int64, power int) *big.Rat {
	size := power
	if size < 0 {
		size = -size
	}
	unit := new(big.Int).Exp(big.NewInt(base), big.NewInt(int64(size)), nil)
	r := new(big.Rat).SetInt(new(big.Int).SetUint64(n))
	if power < 0 {
		return r.Quo(r, new(big.Rat).SetInt(unit))
	}
	return r.Mul(r, new(big.Rat).SetInt(unit))
}

// halfWay is half way between these bits and the next above, exactly, as a token with a point.
func halfWay(magnitude uint64) string {
	sum := new(big.Rat).Add(exactly(magnitude), exactly(magnitude+1))
	return sum.Quo(sum, big.NewRat(2, 1)).FloatString(1075)
}

// justBelow is a token that says somewhat less than this one, which has a point.
func justBelow(token string) string {
	t := []byte(token)
	for i := len(t) - 1; ; i-- {
		if t[i] == '.' {
			continue
		}
		if t[i] != '0' {
			t[i]--
			return string(t) + strings.Repeat("9", 40)
		}
		t[i] = '9'
	}
}

func distance(a, b *big.Rat) *big.Rat {
	d := new(big.Rat).Sub(a, b)
	return d.Abs(d)
}

// best is the digits and the power that P4 asks for, found by trying all that could be.
func best(t *testing.T, magnitude uint64) (uint64, int) {
	t.Helper()
	value := exactly(magnitude)
	low, high := magnitudeRoom(magnitude)
	first := len(value.FloatString(0)) // the number is below 10^first
	if value.Cmp(big.NewRat(1, 1)) < 0 {
		first = -323
		for value.Cmp(timesPower(1, 10, first)) >= 0 {
			first++
		}
	}
	for n := 1; n <= 17; n++ {
		var digits uint64
		var power int
		var away *big.Rat
		for x := first - n - 1; x <= first-n+1; x++ {
			ratio := new(big.Rat).Quo(value, timesPower(1, 10, x))
			around := new(big.Int).Quo(ratio.Num(), ratio.Denom()).Uint64()
			for d := max(around, 1) - 1; d <= around+2; d++ {
				said := timesPower(d, 10, x)
				if d == 0 || len(strconv.FormatUint(d, 10)) > n || !inRoom(said, low, high, magnitude) {
					continue
				}
				gap := distance(said, value)
				if away == nil || gap.Cmp(away) < 0 || gap.Cmp(away) == 0 && d%2 == 0 {
					digits, power, away = d, x, gap
				}
			}
		}
		if away != nil {
			return digits, power
		}
	}
	t.Fatalf("no 17 digits are read as %x", magnitude)
	return 0, 0
}

// magnitudeRoom is the two half ways about a number that is not 0.
func magnitudeRoom(magnitude uint64) (low, high *big.Rat) {
	value, half := exactly(magnitude), big.NewRat(1, 2)
	low = new(big.Rat).Add(value, exactly(magnitude-1))
	high = new(big.Rat).Add(value, exactly(magnitude+1))
	return low.Mul(low, half), high.Mul(high, half)
}

func inRoom(said, low, high *big.Rat, magnitude uint64) bool {
	l, h := said.Cmp(low), high.Cmp(said)
	if magnitude%2 == 0 {
		return l >= 0 && h >= 0
	}
	return l > 0 && h > 0
}

// drawn is some number's bits, without a sign.
func drawn(r *rand.Rand) uint64 {
	for {
		n := r.Uint64() &^ signBit
		switch r.Intn(5) {
		case 0:
			n = n>>52<<52 + uint64(r.Intn(5)) - 2 // about the powers of two
		case 1:
			n >>= 11 + r.Intn(52) // the smallest numbers
		case 2:
			n = 0x3c00000000000000 + n%0x0a00000000000000 // about 1
		case 3:
			n &= 1<<63 - 1<<40 // numbers of few bits
		}
		if n < noNumber {
			return n
		}
	}
}

func wantParse(t *testing.T, token string, want uint64) {
	t.Helper()
	if bits, e := Parse(token); bits != want || e != api.OK {
		t.Errorf("Parse(%.60q), %d bytes = %x, %d, want %x", token, len(token), bits, e, want)
	}
}

func wantParseError(t *testing.T, token string, want api.Errno) {
	t.Helper()
	if bits, e := Parse(token); bits != 0 || e != want {
		t.Errorf("Parse(%.60q), %d bytes = %x, %d, want the error %d", token, len(token), bits, e, want)
	}
}

func wantPrint(t *testing.T, bits uint64, want string) {
	t.Helper()
	if token, e := Print(bits); token != want || e != api.OK {
		t.Errorf("Print(%x) = %q, %d, want %q", bits, token, e, want)
	}
}
