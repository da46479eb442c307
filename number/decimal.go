package number

const (
	// No number, no half way between two and not the bound of the range has more digits than enoughDigits.
	// They are whole and below 2^1024, or m times 2^-k, with m up to 2^54 and k up to 1075: m times 5^k has
	// their digits, 768 of them at most.
	enoughDigits = 768
	// Below 10^(lowestPoint-1) all is nearer to 0 than to the smallest number; from 10^highestPoint on all
	// is out of range.
	lowestPoint  = -323
	highestPoint = 309
	// rangeBound is 2^1024 - 2^970, which has highestPoint digits: it and all above are out of range.
	rangeBound = "" +
		"1797693134862315807937289714053034150799341327100378269361737789804449682927647509466490179775872070" +
		"9633028641669288791094655554785194040263065748867150582068190890200070838367627385484581771153176447" +
		"5730270069855571366959622842914819860834936475292719074168444365510704342711559699508093042880177904" +
		"174497792"
)

// decimal is what a token says without its sign: 0.DIGITS times 10^point. The first digit is not 0; there
// is none if it says 0.
type decimal struct {
	digits []byte // as they are written
	point  int
}

// add lays a digit behind those that are there. Behind enoughDigits of them it only matters whether there is
// one that is not 0, for nothing that the decimal is held against has a digit there: a 1 stands for them all.
func (d *decimal) add(digit byte) {
	switch {
	case len(d.digits) == 0 && digit == '0':
		d.point--
	case len(d.digits) < enoughDigits:
		d.digits = append(d.digits, digit)
	case len(d.digits) == enoughDigits && digit != '0':
		d.digits = append(d.digits, '1')
	}
}

// outOfRange tells whether the decimal is the bound of the range or more.
func (d decimal) outOfRange() bool {
	switch {
	case len(d.digits) == 0 || d.point < highestPoint:
		return false
	case d.point > highestPoint:
		return true
	}
	// Both begin at the same place, so their digits lie in the order of texts. A beginning of the bound is less
	// than it, as among texts: the bound's last digit is not 0.
	return string(d.digits) >= rangeBound
}

// nearest is the bits of the number that the decimal is read as; it is not out of range.
func (d decimal) nearest() uint64 {
	if len(d.digits) == 0 || d.point < lowestPoint {
		return 0
	}
	over, under := d.ratio()
	return nearestBits(over, under)
}

// ratio is the decimal as one whole number over another.
func (d decimal) ratio() (over, under *natural) {
	over, under = fromDigits(d.digits), newNatural(1)
	power := d.point - len(d.digits)
	if power >= 0 {
		over.timesPowerOfTen(power)
	} else {
		under.timesPowerOfTen(-power)
	}
	return over, under
}

// nearestBits is the bits of the number nearest to over/under, neither of them 0. It works in the room of both.
func nearestBits(over, under *natural) uint64 {
	// By the lengths alone over/under lies above 2^52 and below 2^54 times 2^scale (or below, at the
	// lowest scale); which of the two powers above it is the next one, only comparing tells.
	scale := max(over.length()-under.length()-partBits-1, lowestScale)
	if shift := scale + partBits + 1; shift >= 0 {
		under.shiftLeft(shift)
	} else {
		over.shiftLeft(-shift)
	}
	if over.compare(under) >= 0 {
		under.shiftLeft(1)
		scale++
	}
	mantissa := uint64(0)
	for range partBits + 1 {
		over.shiftLeft(1)
		mantissa <<= 1
		if over.compare(under) >= 0 {
			over.subtract(under)
			mantissa++
		}
	}
	over.shiftLeft(1)
	half := over.compare(under)
	if half > 0 || half == 0 && mantissa&1 == 1 {
		mantissa++
	}
	// Added, not joined: the hidden bit makes the exponent one more where there is one, and so does a
	// mantissa that was rounded up to the next power of two.
	return uint64(scale-lowestScale)<<partBits + mantissa
}
