package number

const (
	// No number, no half way between two and not the bound of the range has more digits than enoughDigits.
	// They are whole and below 2^1024, or m times 2^-k, with m up to 2^54 and k up to 1075: m times 5^k has
	// their digits, 768 of them at most.
	enoughDigits = 768
	// Below 10^(lowestPoint-1) all is nearer to 0 than to the smallest number; from 10^highestPoint on all
	// is out of range.
	lowestPoint  = -323
	highestPoint = 309
)

// decimal is what a token says without its sign: 0.DIGITS times 10^point. The first digit is not 0; there
// is none if it says 0.
type decimal struct {
	digits []byte
	point  int
}

// decimal is what the parts say together.
func (p parts) decimal() decimal {
	d := decimal{point: len(p.whole) + p.power()}
	d.add(p.whole)
	d.add(p.fraction)
	return d
}

// add lays digits behind those that are there. Behind enoughDigits of them it only matters whether there is
// one that is not 0, for nothing that the decimal is held against has a digit there: a 1 stands for them all.
func (d *decimal) add(text string) {
	for i := range len(text) {
		digit := text[i] - '0'
		switch {
		case len(d.digits) == 0 && digit == 0:
			d.point--
		case len(d.digits) < enoughDigits:
			d.digits = append(d.digits, digit)
		case len(d.digits) == enoughDigits && digit != 0:
			d.digits = append(d.digits, 1)
		}
	}
}

// nearest is the bits of the number that the decimal is read as; noNumber or more, if it is out of range.
func (d decimal) nearest() uint64 {
	switch {
	case len(d.digits) == 0 || d.point < lowestPoint:
		return 0
	case d.point > highestPoint:
		return noNumber
	}
	over, under := d.ratio()
	return nearestBits(over, under)
}

// ratio is the decimal as one whole number over another.
func (d decimal) ratio() (over, under *natural) {
	over, under = fromDigits(d.digits), newNatural(1)
	power := d.point - len(d.digits)
	if power >= 0 {
		over.timesPowerOfTen(power)
	} else {
		under.timesPowerOfTen(-power)
	}
	return over, under
}

// nearestBits is the bits of the number nearest to over/under, neither of them 0. It works in the room of both.
func nearestBits(over, under *natural) uint64 {
	// By the lengths alone over/under lies above 2^52 and below 2^54 times 2^scale (or below, at the
	// lowest scale); which of the two powers above it is the next one, only comparing tells.
	scale := max(over.length()-under.length()-partBits-1, lowestScale)
	if shift := scale + partBits + 1; shift >= 0 {
		under.shiftLeft(shift)
	} else {
		over.shiftLeft(-shift)
	}
	if over.compare(under) >= 0 {
		under.shiftLeft(1)
		scale++
	}
	mantissa := uint64(0)
	for range partBits + 1 {
		over.shiftLeft(1)
		mantissa <<= 1
		if over.compare(under) >= 0 {
			over.subtract(under)
			mantissa++
		}
	}
	over.shiftLeft(1)
	half := over.compare(under)
	if half > 0 || half == 0 && mantissa&1 == 1 {
		mantissa++
	}
	// Added, not joined: the hidden bit makes the exponent one more where there is one, and so does a
	// mantissa that was rounded up to the next power of two.
	return uint64(scale-lowestScale)<<partBits + mantissa
}
