package decant

import (
	"decant/api"
	"decant/number"
)

// wrongByte is what a state gives up with, at a byte that nothing can be done with any more.
type wrongByte struct{ e api.Errno }

// giveUp takes what a state gave up with. Of all that came, only the error and its place are of use from now on.
func (p *Parser) giveUp(given any) api.Errno {
	wrong, ok := given.(wrongByte)
	if !ok {
		panic(given) // a fault of the program's own, which is not to be hidden
	}
	*p = Parser{came: p.came, wrong: wrong.e}
	return wrong.e
}

// state is what stands, or may stand, where the next byte comes.
type state int

const (
	aValue state = iota
	aValueOrEnd
	aKey
	aKeyOrEnd
	aColon
	behindValue
	inWord
	inToken
	inKey
	inText
)

// take reads a byte.
func (p *Parser) take(b byte) {
	switch p.state {
	case inWord:
		p.takeOfWord(b)
	case inToken:
		p.takeOfToken(b)
	case inKey, inText:
		p.takeOfText(b)
	default:
		if !isBlank(b) {
			p.takeBetween(b)
		}
	}
}

func isBlank(b byte) bool {
	return b == ' ' || b == '\n' || b == '\r' || b == '\t'
}

// takeBetween reads a byte that is no blank, where blanks may stand.
func (p *Parser) takeBetween(b byte) {
	switch {
	case p.state == aValueOrEnd && b == ']' || p.state == aKeyOrEnd && b == '}':
		p.endInnermost()
	case p.state == aValue || p.state == aValueOrEnd:
		p.beginValue(b)
	case (p.state == aKey || p.state == aKeyOrEnd) && b == '"':
		p.state = inKey
	case p.state == aColon && b == ':':
		p.state = aValue
	case p.state == behindValue && len(p.open) > 0:
		p.takeBehindValue(b)
	default:
		panic(wrongByte{api.ErrSyntax})
	}
}

func (p *Parser) beginValue(b byte) {
	switch b {
	case 'n':
		p.beginWord(api.Null, "ull")
	case 'f':
		p.beginWord(api.False, "alse")
	case 't':
		p.beginWord(api.True, "rue")
	case '"':
		p.state = inText
	case '[':
		p.beginNest(api.Array, aValueOrEnd)
	case '{':
		p.beginNest(api.Object, aKeyOrEnd)
	default:
		if !p.token.Next(b) {
			panic(wrongByte{api.ErrSyntax})
		}
		p.state = inToken
	}
}

// beginNest begins an array or an object, behind whose beginning a state comes.
func (p *Parser) beginNest(kind int, within state) {
	if len(p.open) == p.depth {
		panic(wrongByte{api.ErrDepth})
	}
	p.open = append(p.open, len(p.items))
	p.items = append(p.items, api.Item{Kind: kind})
	p.state = within
}

func (p *Parser) endInnermost() {
	p.open = p.open[:len(p.open)-1]
	p.endValue()
}

// endValue counts the value that has ended in what it stands in; of a pair only the value is counted.
func (p *Parser) endValue() {
	if n := len(p.open); n > 0 {
		p.items[p.open[n-1]].N++
	}
	p.state = behindValue
}

// takeBehindValue reads a byte behind a value that stands in an array or object.
func (p *Parser) takeBehindValue(b byte) {
	array := p.items[p.open[len(p.open)-1]].Kind == api.Array
	switch {
	case array && b == ',':
		p.state = aValue
	case !array && b == ',':
		p.state = aKey
	case array && b == ']' || !array && b == '}':
		p.endInnermost()
	default:
		panic(wrongByte{api.ErrSyntax})
	}
}

// beginWord begins null, true or false; the rest of it is to come.
func (p *Parser) beginWord(kind int, rest string) {
	p.items = append(p.items, api.Item{Kind: kind})
	p.word = rest
	p.state = inWord
}

func (p *Parser) takeOfWord(b byte) {
	if b != p.word[0] {
		panic(wrongByte{api.ErrSyntax})
	}
	p.word = p.word[1:]
	if p.word == "" {
		p.endValue()
	}
}

// takeOfToken reads a byte behind one of a token: only there it shows where the token ends.
func (p *Parser) takeOfToken(b byte) {
	if p.token.Next(b) {
		if p.token.Lost() {
			panic(wrongByte{api.ErrRange})
		}
		return
	}
	if e := p.endToken(); e != api.OK {
		panic(wrongByte{e})
	}
	p.take(b)
}

func (p *Parser) endToken() api.Errno {
	bits, e := p.token.Value()
	if e != api.OK {
		return e
	}
	p.items = append(p.items, api.Item{Kind: api.Number, Bits: bits})
	p.token = number.Token{}
	p.endValue()
	return api.OK
}

func (p *Parser) takeOfText(b byte) {
	if !p.text.next(b) {
		return
	}
	p.items = append(p.items, api.Item{Kind: api.Text, S: string(p.text.made)})
	p.text = textReader{}
	if p.state == inKey {
		p.state = aColon
	} else {
		p.endValue()
	}
}

// end is the value of the text that has come, or why it is none.
func (p *Parser) end() ([]api.Item, api.Errno) {
	if p.wrong != api.OK {
		return nil, p.wrong
	}
	if p.state == inToken && len(p.open) == 0 {
		if e := p.endToken(); e == api.ErrRange {
			return nil, e
		}
	}
	if p.state != behindValue || len(p.open) > 0 {
		return nil, api.ErrEnd
	}
	return p.items, api.OK
}
