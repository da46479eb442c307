package number

import (
	"math/big"
	"math/rand"
	"testing"
)

func (n *natural) big() *big.Int {
	sum := new(big.Int)
	for i := len(n.words) - 1; i >= 0; i-- {
		sum.Lsh(sum, wordBits).Add(sum, big.NewInt(int64(n.words[i])))
	}
	return sum
}

func wantNatural(t *testing.T, n *natural, want *big.Int) {
	t.Helper()
	if n.big().Cmp(want) != 0 || n.length() != want.BitLen() {
		t.Fatalf("got %v of %d bits, want %v", n.big(), n.length(), want)
	}
	if top := len(n.words) - 1; top >= 0 && n.words[top] == 0 {
		t.Fatalf("%v has a highest word of 0", n.words)
	}
}

func drawnNatural(r *rand.Rand) *natural {
	digits := make([]byte, r.Intn(80))
	for i := range digits {
		digits[i] = '0' + byte(r.Intn(10))
	}
	return fromDigits(digits)
}

func TestNaturalMade(t *testing.T) {
	for _, n := range []uint64{0, 1, 1<<32 - 1, 1 << 32, 1<<64 - 1} {
		wantNatural(t, newNatural(n), new(big.Int).SetUint64(n))
	}
	for _, text := range []string{"", "0", "000000000000", "7", "999999999", "1000000000", "123456789012345678901234567890", "18446744073709551616"} {
		want, _ := new(big.Int).SetString("0"+text, 10)
		wantNatural(t, fromDigits([]byte(text)), want)
	}
}

func TestNaturalWork(t *testing.T) {
	r := rand.New(rand.NewSource(8))
	for range 5000 {
		n, m := drawnNatural(r), drawnNatural(r)
		a, b := n.big(), m.big()
		if order := n.compare(m); (order < 0) != (a.Cmp(b) < 0) || (order > 0) != (a.Cmp(b) > 0) {
			t.Fatalf("compare(%v, %v) = %d", a, b, order)
		}
		if n.compare(n.clone()) != 0 {
			t.Fatalf("%v is not the same as itself", a)
		}
		if a.Cmp(b) < 0 {
			n, m, a, b = m, n, b, a
		}
		less := n.clone()
		less.subtract(m)
		wantNatural(t, less, new(big.Int).Sub(a, b))
		wantNatural(t, n, a)
		wantNatural(t, m, b)
		factor, plus := 1+uint32(r.Int63n(1<<32-1)), r.Uint32()
		n.timesPlus(factor, plus)
		a.Mul(a, big.NewInt(int64(factor))).Add(a, big.NewInt(int64(plus)))
		wantNatural(t, n, a)
		by := r.Intn(130)
		n.shiftLeft(by)
		wantNatural(t, n, a.Lsh(a, uint(by)))
		power := r.Intn(50)
		n.timesPowerOfTen(power)
		wantNatural(t, n, a.Mul(a, new(big.Int).Exp(big.NewInt(10), big.NewInt(int64(power)), nil)))
	}
}
