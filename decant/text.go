package decant

import (
	"unicode/utf8"

	"decant/api"
)

// textState is what of a text the next byte is.
type textState int

const (
	aCharacter textState = iota
	withinCharacter
	behindBackslash
	aDigit
)

const (
	firstHigh    = 0xd800
	firstLow     = 0xdc00
	behindLow    = 0xe000
	firstOfPairs = 0x10000
	lowBits      = 10 // so many bits the low one adds to a pair

	escapeDigits = 4
)

// textReader reads a text, from behind its first quote on.
type textReader struct {
	state textState
	made  []byte // its characters so far, in UTF-8

	// Within a character of several bytes: how many bytes lack, and which ones the next may be.
	lacking         int
	lowest, highest byte

	// Within an escape: how many digits came, and what they say.
	digits int
	code   rune

	// A high one behind which the low one is still to come; 0, if there is none.
	high rune
}

// next reads a byte; it answers true if that is the quote at the text's end.
func (r *textReader) next(b byte) bool {
	switch r.state {
	case withinCharacter:
		r.goOnCharacter(b)
	case behindBackslash:
		r.beginEscape(b)
	case aDigit:
		r.takeDigit(b)
	default:
		return r.beginCharacter(b)
	}
	return false
}

func (r *textReader) beginCharacter(b byte) (ended bool) {
	switch {
	case b == '\\':
		r.state = behindBackslash
	case r.high != 0:
		panic(wrongByte{api.ErrSurrogate})
	case b == '"':
		return true
	case b < ' ':
		panic(wrongByte{api.ErrSyntax})
	case b < utf8.RuneSelf:
		r.made = append(r.made, b)
	default:
		r.beginSeveral(b)
	}
	return false
}

// beginSeveral begins a character of several bytes. What is too great, a surrogate or longer than need be shows
// at the second byte, but where the first can begin nothing else.
func (r *textReader) beginSeveral(b byte) {
	switch {
	case b >= 0xc2 && b <= 0xdf:
		r.lacking = 1
	case b >= 0xe0 && b <= 0xef:
		r.lacking = 2
	case b >= 0xf0 && b <= 0xf4:
		r.lacking = 3
	default:
		panic(wrongByte{api.ErrText})
	}
	r.lowest, r.highest = 0x80, 0xbf
	switch b {
	case 0xe0:
		r.lowest = 0xa0
	case 0xed:
		r.highest = 0x9f
	case 0xf0:
		r.lowest = 0x90
	case 0xf4:
		r.highest = 0x8f
	}
	r.made = append(r.made, b)
	r.state = withinCharacter
}

func (r *textReader) goOnCharacter(b byte) {
	if b < r.lowest || b > r.highest {
		panic(wrongByte{api.ErrText})
	}
	r.made = append(r.made, b)
	r.lowest, r.highest = 0x80, 0xbf
	r.lacking--
	if r.lacking == 0 {
		r.state = aCharacter
	}
}

// beginEscape reads the byte behind a backslash.
func (r *textReader) beginEscape(b byte) {
	switch {
	case b == 'u':
		r.digits, r.code = 0, 0
		r.state = aDigit
	case r.high != 0:
		panic(wrongByte{api.ErrSurrogate})
	default:
		r.made = append(r.made, escaped(b))
		r.state = aCharacter
	}
}

// escaped is what a byte behind a backslash stands for.
func escaped(b byte) byte {
	switch b {
	case '"', '\\', '/':
		return b
	case 'b':
		return '\b'
	case 'f':
		return '\f'
	case 'n':
		return '\n'
	case 'r':
		return '\r'
	case 't':
		return '\t'
	}
	panic(wrongByte{api.ErrSyntax})
}

// takeDigit reads a digit of an escape. The first two show whether it is a low one: it is, behind a high one and
// only there.
func (r *textReader) takeDigit(b byte) {
	r.code = r.code<<4 | hex(b)
	r.digits++
	paired := r.high != 0
	switch r.digits {
	case 1:
		if paired && r.code != firstLow>>12 {
			panic(wrongByte{api.ErrSurrogate})
		}
	case 2:
		if low := r.code >= firstLow>>8 && r.code < behindLow>>8; low != paired {
			panic(wrongByte{api.ErrSurrogate})
		}
	case escapeDigits:
		r.endEscape()
	}
}

// hex is what a digit says.
func hex(b byte) rune {
	switch {
	case b >= '0' && b <= '9':
		return rune(b - '0')
	case b >= 'a' && b <= 'f':
		return rune(b-'a') + 10
	case b >= 'A' && b <= 'F':
		return rune(b-'A') + 10
	}
	panic(wrongByte{api.ErrSyntax})
}

func (r *textReader) endEscape() {
	switch {
	case r.high != 0:
		pair := firstOfPairs + (r.high-firstHigh)<<lowBits + r.code - firstLow
		r.made = utf8.AppendRune(r.made, pair)
		r.high = 0
	case r.code >= firstHigh && r.code < firstLow:
		r.high = r.code
	default:
		r.made = utf8.AppendRune(r.made, r.code)
	}
	r.state = aCharacter
}
