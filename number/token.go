package number

import "decant/api"

// tokenState is what of a token has come last.
type tokenState int

const (
	nothingCame tokenState = iota
	minusCame
	noughtCame // the whole part is 0, behind which no digit may stand
	wholeCame
	pointCame
	fractionCame
	markCame
	signCame // the exponent's
	powerCame
)

// Token reads a token byte by byte; Token{} is one of which nothing has come. What it keeps does not grow with
// the token.
type Token struct {
	state         tokenState
	negative      bool
	mantissa      decimal
	power         int // the exponent without its sign
	powerNegative bool
}

// Next reads one more byte. It answers false, and leaves all as it was, if the byte does not go on with the
// token.
func (t *Token) Next(b byte) bool {
	state := t.state.behind(b)
	switch state {
	case nothingCame:
		return false
	case minusCame:
		t.negative = true
	case noughtCame, wholeCame:
		t.mantissa.point++
		t.mantissa.add(b)
	case fractionCame:
		t.mantissa.add(b)
	case signCame:
		t.powerNegative = b == '-'
	case powerCame:
		t.addToPower(b)
	}
	t.state = state
	return true
}

// behind is the state behind one more byte; nothingCame, to which no byte leads, if it may not stand there.
func (s tokenState) behind(b byte) tokenState {
	digit := b >= '0' && b <= '9'
	letter := b == 'e' || b == 'E'
	switch {
	case s == nothingCame && b == '-':
		return minusCame
	case (s == nothingCame || s == minusCame) && b == '0':
		return noughtCame
	case (s == nothingCame || s == minusCame || s == wholeCame) && digit:
		return wholeCame
	case (s == noughtCame || s == wholeCame) && b == '.':
		return pointCame
	case (s == pointCame || s == fractionCame) && digit:
		return fractionCame
	case (s == noughtCame || s == wholeCame || s == fractionCame) && letter:
		return markCame
	case s == markCame && (b == '+' || b == '-'):
		return signCame
	case (s == markCame || s == signCame || s == powerCame) && digit:
		return powerCame
	}
	return nothingCame
}

// addToPower lays a digit behind those of the exponent. Exponents that the mantissa cannot make up for are
// drawn in to a bound, beyond which all of them say the same: a token may have any number of digits there.
func (t *Token) addToPower(b byte) {
	bound := max(t.mantissa.point, -t.mantissa.point) + highestPoint - lowestPoint
	t.power = min(t.power*10+int(b-'0'), bound)
}

// Lost tells whether the token is out of range, and nothing that goes on with it brings it back. Ahead of the
// exponent's sign or first digit there is always such a thing: an exponent that is far enough below 0.
func (t *Token) Lost() bool {
	return t.state >= signCame && !t.powerNegative && t.decimal().outOfRange()
}

// Value is the number that the token is read as, by its bits: ErrSyntax, if what has come is no whole token;
// ErrRange, if it is out of range.
func (t *Token) Value() (uint64, api.Errno) {
	switch t.state {
	case noughtCame, wholeCame, fractionCame, powerCame:
	default:
		return 0, api.ErrSyntax
	}
	d := t.decimal()
	if d.outOfRange() {
		return 0, api.ErrRange
	}
	bits := d.nearest()
	if t.negative {
		bits |= signBit
	}
	return bits, api.OK
}

// decimal is what the token says without its sign; without an exponent's digits, as with 0 there.
func (t *Token) decimal() decimal {
	d := t.mantissa
	if t.powerNegative {
		d.point -= t.power
	} else {
		d.point += t.power
	}
	return d
}
