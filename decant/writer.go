package decant

import (
	"slices"
	"strings"

	"decant/api"
	"decant/number"
)

// noBlanks is the indent of a text without any.
const noBlanks = -1

func mayIndent(indent int) bool {
	return indent >= noBlanks && indent <= api.MaxIndent
}

// writer writes a value that is known to be one.
type writer struct {
	value  outline
	indent int
	sorted bool

	open int // how many arrays and objects have begun and not ended
	made strings.Builder
}

// write writes the value whose first item stands there.
func (w *writer) write(first int) {
	switch item := w.value.items[first]; item.Kind {
	case api.Null:
		w.made.WriteString("null")
	case api.False:
		w.made.WriteString("false")
	case api.True:
		w.made.WriteString("true")
	case api.Number:
		token, _ := number.Print(item.Bits)
		w.made.WriteString(token)
	case api.Text:
		w.writeText(item.S)
	case api.Array:
		w.made.WriteByte('[')
		w.writeParts(first)
		w.made.WriteByte(']')
	case api.Object:
		w.made.WriteByte('{')
		w.writeParts(first)
		w.made.WriteByte('}')
	}
}

// writeParts writes what stands between the brackets of an array or object.
func (w *writer) writeParts(nest int) {
	parts := w.parts(nest)
	if len(parts) == 0 {
		return
	}
	w.open++
	for i, part := range parts {
		if i > 0 {
			w.made.WriteByte(',')
		}
		w.newLine()
		if w.value.items[nest].Kind == api.Object {
			w.writeKey(part)
			part = w.value.behind[part]
		}
		w.write(part)
	}
	w.open--
	w.newLine()
}

// parts are the first items of the values, or of the pairs, in an array or object, as they are to be written.
func (w *writer) parts(nest int) []int {
	items, behind := w.value.items, w.value.behind
	object := items[nest].Kind == api.Object
	parts := make([]int, items[nest].N)
	next := nest + 1
	for i := range parts {
		parts[i] = next
		if object {
			next = behind[next]
		}
		next = behind[next]
	}
	if object && w.sorted {
		slices.SortStableFunc(parts, func(a, b int) int { return strings.Compare(items[a].S, items[b].S) })
	}
	return parts
}

func (w *writer) writeKey(key int) {
	w.writeText(w.value.items[key].S)
	w.made.WriteByte(':')
	if w.indent != noBlanks {
		w.made.WriteByte(' ')
	}
}

func (w *writer) newLine() {
	if w.indent == noBlanks {
		return
	}
	w.made.WriteByte('\n')
	w.made.WriteString(strings.Repeat(" ", w.indent*w.open))
}

func (w *writer) writeText(s string) {
	w.made.WriteByte('"')
	for _, character := range s {
		w.writeCharacter(character)
	}
	w.made.WriteByte('"')
}

func (w *writer) writeCharacter(character rune) {
	switch character {
	case '"', '\\':
		w.made.WriteByte('\\')
		w.made.WriteRune(character)
	case '\b':
		w.made.WriteString(`\b`)
	case '\t':
		w.made.WriteString(`\t`)
	case '\n':
		w.made.WriteString(`\n`)
	case '\f':
		w.made.WriteString(`\f`)
	case '\r':
		w.made.WriteString(`\r`)
	default:
		if character < ' ' {
			w.writeCode(character)
		} else {
			w.made.WriteRune(character)
		}
	}
}

// writeCode writes a character below 32 by its number.
func (w *writer) writeCode(character rune) {
	const digits = "0123456789abcdef"
	w.made.WriteString(`\u00`)
	w.made.WriteByte(digits[character>>4])
	w.made.WriteByte(digits[character&15])
}
