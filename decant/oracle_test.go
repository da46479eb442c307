package decant

import (
	"encoding/json"
	"math"
	"regexp"
	"slices"
	"strconv"
	"strings"
	"testing"
	"unicode/utf8"

	"decant/api"
)

// What a text is, and which byte of one that is none is wrong, by the document's words and the library: with no
// state from byte to byte, by trying.

var (
	wholeToken = regexp.MustCompile(`^-?(0|[1-9][0-9]*)(\.[0-9]+)?([eE][+-]?[0-9]+)?$`)
	tokenSoFar = regexp.MustCompile(`^-?((0|[1-9][0-9]*)((\.[0-9]+)?([eE]([+-]?[0-9]*))?|\.))?$`)
	noWayBack  = regexp.MustCompile(`^-?(0|[1-9][0-9]*)(\.[0-9]+)?[eE](\+|\+?[0-9]+)$`)
	tokenAtEnd = regexp.MustCompile(`[-+.0-9eE]*$`)
	lowSoFar   = regexp.MustCompile(`^\\u[dD][c-fC-F]$`)
	hexDigit   = regexp.MustCompile(`^[0-9a-fA-F]$`)
)

// lowHas is what a low escape has in each of its places.
var lowHas = []string{`\`, `u`, `dD`, `cdefCDEF`, `0123456789abcdefABCDEF`, `0123456789abcdefABCDEF`}

func outOfRange(token string) bool {
	_, err := strconv.ParseFloat(token, 64)
	return err != nil
}

// itemsOf is the value of a text and its depth; it answers false if the text is none.
func itemsOf(text string) (items []api.Item, depth int, ok bool) {
	if !json.Valid([]byte(text)) || !utf8.ValidString(text) || hasHalf(text) {
		return nil, 0, false
	}
	d := json.NewDecoder(strings.NewReader(text))
	d.UseNumber()
	var open, seen []int // seen: how many values, keys too, each open one has so far
	for {
		token, err := d.Token()
		if err != nil {
			return items, depth, true
		}
		if end, isMark := token.(json.Delim); isMark && (end == ']' || end == '}') {
			last := len(open) - 1
			items[open[last]].N = seen[last] >> (items[open[last]].Kind - api.Array) // of pairs half as many
			open, seen = open[:last], seen[:last]
			continue
		}
		if len(seen) > 0 {
			seen[len(seen)-1]++
		}
		item := api.Item{}
		switch x := token.(type) {
		case bool:
			item.Kind = api.False
			if x {
				item.Kind = api.True
			}
		case string:
			item.Kind, item.S = api.Text, x
		case json.Number:
			if outOfRange(string(x)) {
				return nil, 0, false
			}
			n, _ := strconv.ParseFloat(string(x), 64)
			item.Kind, item.Bits = api.Number, math.Float64bits(n)
		case json.Delim:
			item.Kind = api.Array
			if x == '{' {
				item.Kind = api.Object
			}
			open, seen = append(open, len(items)), append(seen, 0)
			depth = max(depth, len(open))
		}
		items = append(items, item)
	}
}

// hasHalf tells whether a text that is right but for that has half of a pair alone.
func hasHalf(text string) bool {
	for i := 0; i < len(text); i++ {
		if text[i] != '\\' {
			continue
		}
		i++
		if text[i] != 'u' {
			continue
		}
		switch code := codeAt(text[i+1:]); {
		case code >= 0xd800 && code <= 0xdbff:
			behind := text[i+5:]
			if !strings.HasPrefix(behind, `\u`) || codeAt(behind[2:]) < 0xdc00 || codeAt(behind[2:]) > 0xdfff {
				return true
			}
			i += 10
		case code >= 0xdc00 && code <= 0xdfff:
			return true
		default:
			i += 4
		}
	}
	return false
}

func codeAt(digits string) uint64 {
	code, _ := strconv.ParseUint(digits[:4], 16, 32)
	return code
}

func isText(text string, depth int) bool {
	_, deep, ok := itemsOf(text)
	return ok && deep <= depth
}

// inner is what has come of the text (between quotes) that is not at its end; it answers false if there is none.
// closing is what ends all arrays and objects.
func inner(ahead string) (body, closing string, within bool) {
	begin := 0
	for i := 0; i < len(ahead); i++ {
		switch b := ahead[i]; {
		case within && b == '\\':
			i++
		case b == '"':
			within, begin = !within, i+1
		case within:
		case b == '[':
			closing = "]" + closing
		case b == '{':
			closing = "}" + closing
		case (b == ']' || b == '}') && closing != "":
			closing = closing[1:]
		}
	}
	if !within {
		return "", closing, false
	}
	return ahead[begin:], closing, true
}

// canGoOn tries all ways in which what has come could go on to a text, as far as they differ: it ends what has
// begun last, lays down what must stand behind it, and ends what is around.
func canGoOn(ahead string, depth int) bool {
	_, closing, within := inner(ahead)
	ends := []string{"", "0", "e-99999", "0e-99999", "-99999", "99999", "ull", "ll", "l", "rue", "ue", "e", "alse", "lse", "se"}
	if within {
		ends = []string{`"`, `n"`, `0000"`, `000"`, `00"`, `0"`,
			`00\udc00"`, `0\udc00"`, `\udc00"`, `udc00"`, `dc00"`, `c00"`,
			"\x80\"", "\x80\x80\"", "\xa0\x80\"", "\x80\x80\x80\"", "\x90\x80\x80\""}
	}
	for _, end := range ends {
		for _, behind := range []string{"", "0", ":0", `"":0`} {
			if isText(ahead+end+behind+closing, depth) {
				return true
			}
		}
	}
	return false
}

// lastEscape is the escape that a body of a text ends in, and that is not whole; and whether a high one stands
// ahead of it, or at the body's end.
func lastEscape(body string) (part string, high bool) {
	for i := 0; i < len(body); {
		if body[i] != '\\' {
			i, high = i+1, false
			continue
		}
		size := 2
		if i+1 < len(body) && body[i+1] == 'u' {
			size = 6
		}
		if i+size > len(body) {
			return body[i:], high
		}
		high = size == 6 && !high && codeAt(body[i+2:]) >= 0xd800 && codeAt(body[i+2:]) <= 0xdbff
		i += size
	}
	return "", high
}

// errorOf is the error of a wrong byte: the first of the document's list that applies.
func errorOf(ahead string, b byte, depth int) api.Errno {
	body, _, within := inner(ahead)
	if within {
		return errorInText(body, b)
	}
	token := tokenAtEnd.FindString(ahead)
	longer := token + string(rune(b))
	switch {
	case wholeToken.MatchString(token) && outOfRange(token) && !tokenSoFar.MatchString(longer):
		return api.ErrRange
	case noWayBack.MatchString(longer) && (b == '+' && outOfRange(longer+"0") || b != '+' && outOfRange(longer)):
		return api.ErrRange
	case (b == '[' || b == '{') && canGoOn(ahead+"null", depth):
		return api.ErrDepth
	}
	return api.ErrSyntax
}

func errorInText(body string, b byte) api.Errno {
	part, high := lastEscape(body)
	isHex := hexDigit.MatchString(string(rune(b)))
	switch {
	case !high && lowSoFar.MatchString(part+string(rune(b))):
		return api.ErrSurrogate
	case high && len(part) >= 2 && !isHex:
		return api.ErrSyntax
	case high && strings.IndexByte(lowHas[len(part)], b) < 0:
		return api.ErrSurrogate
	case part == "" && (b >= 128 || !utf8.ValidString(body)):
		return api.ErrText
	}
	return api.ErrSyntax
}

// answer is what Close tells of a text.
type answer struct {
	value []api.Item
	e     api.Errno
	at    int
}

func (a answer) same(b answer) bool {
	return slices.Equal(a.value, b.value) && a.e == b.e && a.at == b.at
}

// expected is the answer that the document asks for.
func expected(text string, depth int) answer {
	value, deep, ok := itemsOf(text)
	if ok && deep <= depth {
		return answer{value, api.OK, len(text)}
	}
	// With a wrong byte nothing that comes behind it can go on either.
	low, high := 0, len(text) // what is as long as low can go on
	for low < high {
		if middle := (low + high + 1) / 2; canGoOn(text[:middle], depth) {
			low = middle
		} else {
			high = middle - 1
		}
	}
	if low < len(text) {
		return answer{nil, errorOf(text[:low], text[low], depth), low}
	}
	if token := strings.Trim(text, " \n\r\t"); wholeToken.MatchString(token) {
		return answer{nil, api.ErrRange, len(text)}
	}
	return answer{nil, api.ErrEnd, len(text)}
}

// reading is the answer to a text that comes in these chunks. Each call of Feed must tell what is right by then.
func reading(t *testing.T, depth int, chunks ...string) answer {
	t.Helper()
	p, e := NewParser(depth)
	if p == nil || e != api.OK {
		t.Fatalf("NewParser(%d) = %v, %d", depth, p, e)
	}
	var told []api.Errno
	for _, chunk := range chunks {
		told = append(told, p.Feed(chunk))
	}
	value, e, at := p.Close()
	came := 0
	for i, chunk := range chunks {
		came += len(chunk)
		want := api.OK
		if came > at {
			want = e
		}
		if told[i] != want {
			t.Fatalf("Feed of chunk %d of %.200q = %d, want %d", i, chunks, told[i], want)
		}
	}
	return answer{value, e, at}
}

// pieces is a text in chunks of a size.
func pieces(text string, size int) []string {
	var chunks []string
	for ; len(text) > size; text = text[size:] {
		chunks = append(chunks, text[:size])
	}
	return append(chunks, text)
}

// wantAnswer asks for an answer to a text, whole and in pieces.
func wantAnswer(t *testing.T, text string, depth int, want answer) {
	t.Helper()
	for _, size := range []int{max(len(text), 1), 1, 2, 3, 5} {
		if got := reading(t, depth, pieces(text, size)...); !got.same(want) {
			t.Errorf("%.80q (%d bytes) in pieces of %d, to the depth %d: %+v, want %+v", text, len(text), size, depth, got, want)
			return
		}
	}
}

func wantError(t *testing.T, text string, e api.Errno, at int) {
	t.Helper()
	wantAnswer(t, text, api.MaxDepth, answer{nil, e, at})
}

func wantValue(t *testing.T, text string, value ...api.Item) {
	t.Helper()
	wantAnswer(t, text, api.MaxDepth, answer{value, api.OK, len(text)})
}
