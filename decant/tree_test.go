package decant

import (
	"bytes"
	"encoding/json"
	"fmt"
	"slices"
	"sort"
	"strings"
	"testing"
	"unicode/utf8"

	"decant/api"
	"decant/number"
)

// What a value is, and which text is written of it, by the document's words and the library: the items are laid
// together from the last one back, blanks are laid in by encoding/json.

// tree is a value, with those in it; of an object keys and values in turn.
type tree struct {
	item   api.Item
	inside []tree
	depth  int
}

// mayStand tells whether an item is right, whatever stands around it.
func mayStand(item api.Item) bool {
	nest := item.Kind == api.Array || item.Kind == api.Object
	switch {
	case item.Kind < api.Null || item.Kind > api.Object:
		return false
	case item.N < 0 || item.N > 0 && !nest:
		return false
	case item.Bits != 0 && item.Kind != api.Number || item.Bits>>52&2047 == 2047:
		return false
	case item.S != "" && item.Kind != api.Text || !utf8.ValidString(item.S):
		return false
	}
	return true
}

// treeOf is the value that items are; it answers false if they are none.
func treeOf(items []api.Item) (tree, bool) {
	var made []tree // those that no array or object has taken in yet, the last one first
	for _, item := range slices.Backward(items) {
		if !mayStand(item) || item.N > len(made) {
			return tree{}, false
		}
		size := item.N
		if item.Kind == api.Object {
			size = 2 * item.N
		}
		if size > len(made) {
			return tree{}, false
		}
		inside := slices.Clone(made[len(made)-size:])
		slices.Reverse(inside)
		made = append(made[:len(made)-size], treeWith(item, inside))
		for i := 0; item.Kind == api.Object && i < size; i += 2 {
			if inside[i].item.Kind != api.Text {
				return tree{}, false
			}
		}
	}
	if len(made) != 1 || made[0].depth > api.MaxDepth {
		return tree{}, false
	}
	return made[0], true
}

func treeWith(item api.Item, inside []tree) tree {
	made := tree{item: item, inside: inside}
	if item.Kind == api.Array || item.Kind == api.Object {
		made.depth = 1
	}
	for _, value := range inside {
		made.depth = max(made.depth, value.depth+1)
	}
	return made
}

// sortedTree is a value with all pairs in the order of their keys.
func sortedTree(value tree) tree {
	inside := make([]tree, len(value.inside))
	for i := range inside {
		inside[i] = sortedTree(value.inside[i])
	}
	if value.item.Kind == api.Object {
		pairs := slices.Collect(slices.Chunk(inside, 2))
		sort.SliceStable(pairs, func(a, b int) bool {
			return bytes.Compare([]byte(pairs[a][0].item.S), []byte(pairs[b][0].item.S)) < 0
		})
		inside = slices.Concat(pairs...)
	}
	return tree{item: value.item, inside: inside, depth: value.depth}
}

// flat is a value as items again.
func flat(value tree) []api.Item {
	items := []api.Item{value.item}
	for _, inner := range value.inside {
		items = append(items, flat(inner)...)
	}
	return items
}

// escapes is what is written otherwise than it is.
var escapes = func() *strings.Replacer {
	pairs := []string{`"`, `\"`, `\`, `\\`, "\x08", `\b`, "\x09", `\t`, "\x0a", `\n`, "\x0c", `\f`, "\x0d", `\r`}
	for b := range 32 {
		pairs = append(pairs, string(rune(b)), fmt.Sprintf(`\u%04x`, b))
	}
	return strings.NewReplacer(pairs...)
}()

// closeTogether is the text of a value without blanks.
func closeTogether(value tree) string {
	var inside []string
	for _, inner := range value.inside {
		inside = append(inside, closeTogether(inner))
	}
	switch value.item.Kind {
	case api.Number:
		token, _ := number.Print(value.item.Bits)
		return token
	case api.Text:
		return `"` + escapes.Replace(value.item.S) + `"`
	case api.Array:
		return "[" + strings.Join(inside, ",") + "]"
	case api.Object:
		var pairs []string
		for pair := range slices.Chunk(inside, 2) {
			pairs = append(pairs, strings.Join(pair, ":"))
		}
		return "{" + strings.Join(pairs, ",") + "}"
	}
	return []string{"null", "false", "true"}[value.item.Kind]
}

// textOf is the text that is to be written of a value.
func textOf(t *testing.T, value tree, indent int, sorted bool) string {
	t.Helper()
	if sorted {
		value = sortedTree(value)
	}
	text := closeTogether(value)
	if indent < 0 {
		return text
	}
	var laidOut bytes.Buffer
	if err := json.Indent(&laidOut, []byte(text), "", strings.Repeat(" ", indent)); err != nil {
		t.Fatalf("%.200q: %v", text, err)
	}
	return laidOut.String()
}

// writing is Write's answer; what was handed in, and what stands behind it, must be as it was.
func writing(t *testing.T, items []api.Item, indent int, sorted bool) (string, api.Errno) {
	t.Helper()
	spare := api.Item{Kind: 99, N: -9, Bits: 9, S: "spare"}
	given := append(slices.Clone(items), spare, spare)
	text, e := Write(given[:len(items)], indent, sorted)
	if !slices.Equal(given[:len(items)], items) || given[len(items)] != spare || given[len(items)+1] != spare {
		t.Fatalf("Write has written into %.200v", items)
	}
	return text, e
}

// wantWritten asks for the text of a value.
func wantWritten(t *testing.T, indent int, sorted bool, want string, items ...api.Item) {
	t.Helper()
	if text, e := writing(t, items, indent, sorted); text != want || e != api.OK {
		t.Errorf("Write(%.200v, %d, %v) = %q, %d, want %q", items, indent, sorted, text, e, want)
	}
}

// wantNoValue asks for ErrValue, with whatever indent.
func wantNoValue(t *testing.T, items ...api.Item) {
	t.Helper()
	for _, indent := range []int{-1, 0, 2, 16} {
		for _, sorted := range []bool{false, true} {
			if text, e := writing(t, items, indent, sorted); text != "" || e != api.ErrValue {
				t.Errorf("Write(%.200v, %d, %v) = %.80q, %d, want ErrValue", items, indent, sorted, text, e)
			}
		}
	}
}

// wantRight holds what Write makes of items, be they a value or none, against the document's words.
func wantRight(t *testing.T, items []api.Item, indent int, sorted bool) (right bool) {
	t.Helper()
	value, right := treeOf(items)
	want, wantE := "", api.ErrValue
	if right {
		want, wantE = textOf(t, value, indent, sorted), api.OK
	}
	if text, e := writing(t, items, indent, sorted); text != want || e != wantE {
		t.Fatalf("Write(%.400v, %d, %v) = %.400q, %d, want %.400q, %d", items, indent, sorted, text, e, want, wantE)
	}
	return right
}
