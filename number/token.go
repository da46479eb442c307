package number

import "strings"

// parts are the pieces of a token, as they are written.
type parts struct {
	negative         bool
	whole, fraction  string
	exponentNegative bool
	exponent         string
}

// cut takes a token to pieces; it answers false if it is none.
func cut(token string) (parts, bool) {
	var p parts
	rest, negative := strings.CutPrefix(token, "-")
	p.negative = negative
	p.whole, rest = cutDigits(rest)
	if p.whole == "" || p.whole[0] == '0' && len(p.whole) > 1 {
		return parts{}, false
	}
	if behind, ok := strings.CutPrefix(rest, "."); ok {
		p.fraction, rest = cutDigits(behind)
		if p.fraction == "" {
			return parts{}, false
		}
	}
	if behind, ok := cutExponentMark(rest); ok {
		behind, p.exponentNegative = cutSign(behind)
		p.exponent, rest = cutDigits(behind)
		if p.exponent == "" {
			return parts{}, false
		}
	}
	if rest != "" {
		return parts{}, false
	}
	return p, true
}

// cutDigits parts the digits that a text begins with from what stands behind them.
func cutDigits(text string) (digits, rest string) {
	n := 0
	for n < len(text) && text[n] >= '0' && text[n] <= '9' {
		n++
	}
	return text[:n], text[n:]
}

func cutExponentMark(text string) (rest string, ok bool) {
	if rest, ok := strings.CutPrefix(text, "e"); ok {
		return rest, true
	}
	return strings.CutPrefix(text, "E")
}

func cutSign(text string) (rest string, negative bool) {
	if rest, ok := strings.CutPrefix(text, "+"); ok {
		return rest, false
	}
	return strings.CutPrefix(text, "-")
}

// power is the exponent, with its sign. Exponents that nothing written ahead of them can make up for are
// drawn in to a bound, beyond which all of them say the same: a token may have any number of digits there.
func (p parts) power() int {
	bound := len(p.whole) + len(p.fraction) + highestPoint - lowestPoint
	power := 0
	for i := range len(p.exponent) {
		power = min(power*10+int(p.exponent[i]-'0'), bound)
	}
	if p.exponentNegative {
		return -power
	}
	return power
}
