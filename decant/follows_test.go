package decant

import (
	"math/rand"
	"slices"
	"strings"
	"testing"

	"decant/api"
	"decant/number"
)

// What follows of the promises (P11), each row at ordinary inputs; at drawn ones here and beside the calls' tests.

// ordinary are values as callers have them.
var ordinary = [][]api.Item{
	{null}, {no}, {yes}, {zero}, {num(1 << 63)}, {one}, {num(0x3fb999999999999a)}, {num(0xc059000000000000)}, {num(1)}, {num(0x7fefffffffffffff)}, {num(0x444b1ae4d6e2ef50)}, {num(0x3e7ad7f29abcaf48)},
	{txt("")}, {txt("a")}, {txt("\"\\/\b\f\n\r\t\x00\x1f\x7fé€𝄞\u2028\ufffd\U0010ffff")}, {txt(`\u0041`)},
	{arr(0)}, {obj(0)},
	{arr(3), one, two, txt("é")},
	{arr(2), arr(1), arr(0), obj(0)},
	{obj(2), txt("b"), arr(2), one, two, txt("a"), txt("A")},
	{obj(4), txt("b"), one, txt("a"), two, txt("b"), null, txt("a"), no},
	{obj(5), txt("abc"), one, txt("b"), one, txt("ab"), one, txt(""), one, txt("a\n"), one},
	{obj(2), txt("z"), obj(2), txt("y"), arr(0), txt("x"), obj(1), txt("\""), zero, txt("w"), arr(2), obj(2), txt("v"), yes, txt("u"), no, obj(0)},
}

// eachRow does it for ordinary values and for drawn ones.
func eachRow(seed int64, drawn int, do func(items []api.Item)) {
	for _, items := range ordinary {
		do(items)
	}
	do(nested(999, obj(2), txt("b"), one, txt("a"), two))
	r := rand.New(rand.NewSource(seed))
	for range drawn {
		do(drawnItems(r, 4))
	}
}

// deepEnough is the least depth to which a value can be read.
func deepEnough(t *testing.T, items []api.Item) (tree, int) {
	t.Helper()
	value, right := treeOf(items)
	if !right {
		t.Fatalf("%.200v is no value", items)
	}
	return value, max(value.depth, 1)
}

// TestP11Numbers: numbers of all sizes are read from a text as they were written, bit by bit.
func TestP11Numbers(t *testing.T) {
	r := rand.New(rand.NewSource(16))
	for range 30 {
		items := []api.Item{arr(300)}
		for range 300 {
			bits := r.Uint64()
			if !number.Is(bits) {
				bits &^= 1 << 62
			}
			items = append(items, num(bits))
		}
		text, e := Write(items, -1, false)
		if got := reading(t, 1, text); e != api.OK || !got.same(answer{items, api.OK, len(text)}) {
			t.Fatalf("%.200q is not read as it was written: %d, %d at %d", text, e, got.e, got.at)
		}
		for _, token := range strings.Split(strings.Trim(text, "[]"), ",") {
			if len(token) > 25 {
				t.Fatalf("%q has %d bytes", token, len(token))
			}
		}
	}
}

// TestP11WrittenIsRead: what Write writes is read as the value; to the least depth, and not to one less.
func TestP11WrittenIsRead(t *testing.T) {
	t.Parallel()
	eachRow(17, 100, func(items []api.Item) {
		value, depth := deepEnough(t, items)
		eachIndent(func(indent int, sorted bool) {
			want := items
			if sorted {
				want = flat(sortedTree(value))
			}
			text, e := Write(items, indent, sorted)
			if got := reading(t, depth, text); e != api.OK || !got.same(answer{want, api.OK, len(text)}) {
				t.Fatalf("Write(%.200v, %d, %v) = %.200q, %d, is read as %.200v", items, indent, sorted, text, e, got)
			}
			if depth == 1 {
				return
			}
			if got := reading(t, depth-1, text); got.e != api.ErrDepth {
				t.Fatalf("%.200q to the depth %d: %d at %d", text, depth-1, got.e, got.at)
			}
		})
	})
}

// TestP11SortedOnce: sorted pairs lie in the one order that there is, whatever order they had.
func TestP11SortedOnce(t *testing.T) {
	t.Parallel()
	eachRow(18, 500, func(items []api.Item) {
		value, _ := deepEnough(t, items)
		want, _ := Write(items, 2, true)
		for _, sorted := range []bool{false, true} {
			if text, e := Write(flat(sortedTree(value)), 2, sorted); text != want || e != api.OK {
				t.Fatalf("%.200q, %d, want %.200q", text, e, want)
			}
		}
	})
}

// TestP11AnyChunks: Format's answer is the same where the text is cut into two or three, and where it is not.
func TestP11AnyChunks(t *testing.T) {
	t.Parallel()
	r := rand.New(rand.NewSource(19))
	for n, text := range slices.Concat(some, mixed, drawnTexts(r, 150)) {
		if len(text) > 100 {
			text = text[:100]
		}
		indent, sorted := n%18-1, n%2 == 0
		want := Batch([]string{text}, 3, indent, sorted)[0]
		for i := range len(text) + 1 {
			for j := i; j <= len(text); j++ {
				if got := Format([]string{text[:i], text[i:j], text[j:]}, 3, indent, sorted); got != want {
					t.Fatalf("%q cut at %d and %d: %+v, want %+v", text, i, j, got, want)
				}
			}
		}
	}
}

// TestP11FormatsAgain: what Format and Batch have written, they write again, with each indent, sorted and not.
func TestP11FormatsAgain(t *testing.T) {
	t.Parallel()
	r := rand.New(rand.NewSource(20))
	texts := slices.Concat(some, mixed, drawnTexts(r, 200))
	eachIndent(func(indent int, sorted bool) {
		var written []string
		for _, result := range Batch(texts, 1000, indent, sorted) {
			if result.E == api.OK {
				written = append(written, result.Text)
				wantAgain(t, result.Text, 1000, indent, sorted)
			}
		}
		if len(written) < 50 {
			t.Fatalf("only %d texts were written", len(written))
		}
		for i, result := range Batch(written, 1000, indent, sorted) {
			if result != (api.Result{Text: written[i], At: len(written[i])}) {
				t.Fatalf("of %.200q came %.200v", written[i], result)
			}
		}
	})
}

// TestP11DeepAgain: so does the deepest text that may be.
func TestP11DeepAgain(t *testing.T) {
	text := strings.Repeat(`[{"b":0,"a":`, 500) + "null" + strings.Repeat("}]", 500)
	for _, indent := range []int{-1, 0, 16} {
		written := Format([]string{text}, 1000, indent, true)
		if written.E != api.OK || written.At != len(text) {
			t.Fatalf("%d at %d", written.E, written.At)
		}
		wantAgain(t, written.Text, 1000, indent, true)
	}
}

// TestP11OtherIndents: by way of another indent the same text comes.
func TestP11OtherIndents(t *testing.T) {
	t.Parallel()
	eachRow(21, 100, func(items []api.Item) {
		want, _ := Write(items, 3, true)
		eachIndent(func(indent int, sorted bool) {
			between, _ := Write(items, indent, sorted)
			if got := Format([]string{between}, 1000, 3, true); got != (api.Result{Text: want, At: len(between)}) {
				t.Fatalf("by way of %.200q comes %.200v, want %.200q", between, got, want)
			}
		})
	})
}
