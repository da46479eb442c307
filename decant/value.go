package decant

import (
	"unicode/utf8"

	"decant/api"
	"decant/number"
)

// outline goes through items that may be a value, and notes where each value in them ends: without that, pairs
// could not be written in another order.
type outline struct {
	items  []api.Item
	behind []int // for each item that begins a value, the place behind that value
	next   int
}

// outlineOf answers false if the items are no value.
func outlineOf(items []api.Item) (outline, bool) {
	o := outline{items: items, behind: make([]int, len(items))}
	ok := o.value(api.MaxDepth) && o.next == len(items)
	return o, ok
}

// value goes through a value that is so deep at most; it answers false if none stands there.
func (o *outline) value(depth int) bool {
	first := o.next
	if first == len(o.items) || !isItem(o.items[first]) {
		return false
	}
	o.next++
	if kind := o.items[first].Kind; kind == api.Array || kind == api.Object {
		if depth == 0 || !o.inside(o.items[first], depth-1) {
			return false
		}
	}
	o.behind[first] = o.next
	return true
}

// inside goes through what is in an array or object. Its N may be greater than any list is long, so N is not
// reckoned with: the items run out first.
func (o *outline) inside(nest api.Item, depth int) bool {
	for range nest.N {
		if nest.Kind == api.Object && !o.key() {
			return false
		}
		if !o.value(depth) {
			return false
		}
	}
	return true
}

func (o *outline) key() bool {
	return o.next < len(o.items) && o.items[o.next].Kind == api.Text && o.value(0)
}

// isItem tells whether an item may stand in a value, for itself.
func isItem(item api.Item) bool {
	own := api.Item{Kind: item.Kind}
	right := true
	switch item.Kind {
	case api.Null, api.False, api.True:
	case api.Number:
		own.Bits = item.Bits
		right = number.Is(item.Bits)
	case api.Text:
		own.S = item.S
		right = utf8.ValidString(item.S)
	case api.Array, api.Object:
		own.N = item.N
		right = item.N >= 0
	default:
		return false
	}
	// What the kind does not have is 0 and empty.
	return right && item == own
}
