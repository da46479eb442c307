package number

import "strings"

const (
	// With the point behind so many digits at most, a token has no exponent; nor with it so many noughts
	// ahead of the first digit at most.
	longestWhole   = 21
	longestNoughts = 5
)

// layOut is the token for digits (the last not 0) times 10^power.
func layOut(digits uint64, power int) string {
	d := digitsOf(digits)
	point := len(d) + power
	switch {
	case point > longestWhole || point < -longestNoughts:
		return withExponent(d, point-1)
	case point <= 0:
		return "0." + noughts(-point) + d
	case power >= 0:
		return d + noughts(power)
	}
	return d[:point] + "." + d[point:]
}

func withExponent(d string, exponent int) string {
	text := d[:1]
	if len(d) > 1 {
		text += "." + d[1:]
	}
	if exponent < 0 {
		return text + "e-" + digitsOf(uint64(-exponent))
	}
	return text + "e+" + digitsOf(uint64(exponent))
}

func noughts(n int) string {
	return strings.Repeat("0", n)
}

// digitsOf is a whole number in digits.
func digitsOf(n uint64) string {
	var room [20]byte // 2^64 has so many
	at := len(room)
	for {
		at--
		room[at] = '0' + byte(n%10)
		n /= 10
		if n == 0 {
			return string(room[at:])
		}
	}
}
