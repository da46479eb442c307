// Package number: numbers, as they are written: see DOC.md.
package number

import "decant/api"

const (
	partBits = 52
	// hiddenBit stands ahead of the part f, unless the exponent e is 0.
	hiddenBit = 1 << partBits
	signBit   = 1 << 63
	// noNumber is the lowest of the bits (without a sign) that are no number.
	noNumber = 2047 << partBits
	// lowestScale is the power of two that the smallest numbers are counted in.
	lowestScale = -1074
)

// Parse is the number that a token is, by its bits (P3).
func Parse(token string) (uint64, api.Errno) {
	var t Token
	for i := range len(token) {
		if !t.Next(token[i]) {
			return 0, api.ErrSyntax
		}
	}
	return t.Value()
}

// Is tells whether bits are a number.
func Is(bits uint64) bool {
	return bits&^signBit < noNumber
}

// Print is the shortest token of a number (P4).
func Print(bits uint64) (string, api.Errno) {
	if !Is(bits) {
		return "", api.ErrArg
	}
	magnitude := bits &^ signBit
	text := "0"
	if magnitude != 0 {
		text = layOut(shortest(magnitude))
	}
	if bits != magnitude {
		text = "-" + text
	}
	return text, api.OK
}
