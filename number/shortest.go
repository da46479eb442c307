package number

import "math/bits"

// search looks for the digits to print a number by, from the highest on. The digits so far, times 10^power,
// are at or below the number; they lack rest/unit of 10^power. What is less than the number by up to
// below/unit of 10^power, or greater by up to above/unit, is read as it: the ends too, if ends says so.
type search struct {
	digits                   uint64
	power                    int
	rest, below, above, unit *natural
	ends                     bool
}

// shortest is the digits of a number that is not 0 (its bits without a sign) and the power of ten that they
// are to be taken times with.
//
// The highest power of which some multiple is read as the number gives the fewest digits: a multiple of a
// lower one has more of them, unless a power of ten lies between the two. There the room about the number
// must hold 9 and 10 of one power, which it does for the bits 2 alone; and there the 10 is the nearer.
func shortest(magnitude uint64) (digits uint64, power int) {
	s := newSearch(magnitude)
	for {
		if digits, found := s.pick(); found {
			return digits, s.power
		}
		s.next()
	}
}

// newSearch begins ahead of the first digit.
func newSearch(magnitude uint64) *search {
	mantissa, scale := magnitude, lowestScale
	if exponent := magnitude >> partBits; exponent > 0 {
		mantissa = magnitude&(hiddenBit-1) | hiddenBit
		scale = int(exponent) - 1 + lowestScale
	}
	// Counted in quarters of the mantissa's last bit, all that is half way to a neighbour is whole.
	s := &search{
		rest:  newNatural(mantissa * 4),
		below: newNatural(2),
		above: newNatural(2),
		unit:  newNatural(4),
		ends:  mantissa%2 == 0,
	}
	if mantissa == hiddenBit && scale > lowestScale {
		s.below = newNatural(1) // the neighbour below lies half as far away as the one above
	}
	if scale >= 0 {
		s.timesAll(func(n *natural) { n.shiftLeft(scale) })
	} else {
		s.unit.shiftLeft(-scale)
	}
	s.setPower(bits.Len64(mantissa) + scale)
	return s
}

// timesAll makes the number and the room about it as much greater as times does.
func (s *search) timesAll(times func(n *natural)) {
	times(s.rest)
	times(s.below)
	times(s.above)
}

// setPower brings the search to a power of ten that is greater than the number; the number is less than
// 2^length. The guess may be somewhat wrong: one too low is raised here, one too high costs a digit 0.
func (s *search) setPower(length int) {
	s.power = length * 30103 / 100000 // the logarithm of 2
	if s.power >= 0 {
		s.unit.timesPowerOfTen(s.power)
	} else {
		s.timesAll(func(n *natural) { n.timesPowerOfTen(-s.power) })
	}
	for s.rest.compare(s.unit) >= 0 {
		s.unit.timesPlus(10, 0)
		s.power++
	}
}

// next goes on by one digit.
func (s *search) next() {
	s.timesAll(func(n *natural) { n.timesPlus(10, 0) })
	s.power--
	s.digits *= 10
	for s.rest.compare(s.unit) >= 0 {
		s.rest.subtract(s.unit)
		s.digits++
	}
}

// pick is the multiple of the power at hand that is read as the number: the nearer one, if the one below it
// and the one above both are, and of equally near ones the even one.
func (s *search) pick() (digits uint64, found bool) {
	lack := s.unit.clone()
	lack.subtract(s.rest)
	lower, upper := s.within(s.rest, s.below), s.within(lack, s.above)
	if lower && upper {
		nearer := s.rest.compare(lack)
		lower = nearer < 0 || nearer == 0 && s.digits%2 == 0
	}
	switch {
	case lower:
		return s.digits, true
	case upper:
		return s.digits + 1, true
	}
	return 0, false
}

func (s *search) within(gap, room *natural) bool {
	order := gap.compare(room)
	return order < 0 || order == 0 && s.ends
}
