package decant

import (
	"fmt"
	"math/rand"
	"slices"
	"strings"
	"testing"

	"decant/api"
)

func eachIndent(do func(indent int, sorted bool)) {
	for indent := -1; indent <= api.MaxIndent; indent++ {
		do(indent, false)
		do(indent, true)
	}
}

// nested is items within so many arrays, each with just one value.
func nested(depth int, items ...api.Item) []api.Item {
	return append(slices.Repeat([]api.Item{arr(1)}, depth), items...)
}

func TestP8Indents(t *testing.T) {
	for _, indent := range []int{-2, -3, 17, 18, 1 << 32, 1<<32 - 1, -1 << 63, 1<<63 - 1} {
		for _, items := range [][]api.Item{nil, {null}, {null, null}, {{Kind: 7}}} {
			if text, e := writing(t, items, indent, false); text != "" || e != api.ErrArg {
				t.Errorf("indent %d: %q, %d, want ErrArg", indent, text, e)
			}
		}
	}
	eachIndent(func(indent int, sorted bool) { wantWritten(t, indent, sorted, "null", null) })
}

// TestP8Layout lays values out by hand, with every indent.
func TestP8Layout(t *testing.T) {
	eachIndent(func(indent int, sorted bool) {
		line := func(nesting int) string {
			if indent < 0 {
				return ""
			}
			return "\n" + strings.Repeat(strings.Repeat(" ", indent), nesting)
		}
		colon := ": "
		if indent < 0 {
			colon = ":"
		}
		want := func(parts []string, items ...api.Item) {
			t.Helper()
			wantWritten(t, indent, sorted, strings.Join(parts, ""), items...)
		}
		want([]string{"[]"}, arr(0))
		want([]string{"{}"}, obj(0))
		want([]string{"[", line(1), "1", line(0), "]"}, arr(1), one)
		want([]string{"[", line(1), "1,", line(1), "2", line(0), "]"}, arr(2), one, two)
		want([]string{"[", line(1), "[],", line(1), "{},", line(1), "[", line(2), "[]", line(1), "]", line(0), "]"}, arr(3), arr(0), obj(0), arr(1), arr(0))
		want([]string{"{", line(1), `"a"`, colon, "1", line(0), "}"}, obj(1), txt("a"), one)
		want([]string{"{", line(1), `"a"`, colon, `"b",`, line(1), `"c"`, colon, "[],", line(1), `"d"`, colon, "{}", line(0), "}"}, obj(3), txt("a"), txt("b"), txt("c"), arr(0), txt("d"), obj(0))
		want([]string{"{", line(1), `""`, colon, "[", line(2), "null,", line(2), "{", line(3), `"x"`, colon, "{", line(4), `"y"`, colon, "true", line(3), "}", line(2), "}", line(1), "]", line(0), "}"},
			obj(1), txt(""), arr(2), null, obj(1), txt("x"), obj(1), txt("y"), yes)
	})
}

func TestP8Scalars(t *testing.T) {
	eachIndent(func(indent int, sorted bool) {
		wantWritten(t, indent, sorted, "null", null)
		wantWritten(t, indent, sorted, "false", no)
		wantWritten(t, indent, sorted, "true", yes)
		for bits, token := range map[uint64]string{
			0: "0", 1 << 63: "-0", 1: "5e-324", 1<<63 | 1: "-5e-324", 0x3ff0000000000000: "1", 0xbff8000000000000: "-1.5", 0x3fb999999999999a: "0.1", 0x444b1ae4d6e2ef50: "1e+21", 0x4415af1d78b58c40: "100000000000000000000", 0x3eb0c6f7a0b5ed8d: "0.000001", 0x3e7ad7f29abcaf48: "1e-7", 0x7fefffffffffffff: "1.7976931348623157e+308", 0xffefffffffffffff: "-1.7976931348623157e+308",
		} {
			wantWritten(t, indent, sorted, token, num(bits))
		}
		wantWritten(t, indent, sorted, `""`, txt(""))
		wantWritten(t, indent, sorted, `"null"`, txt("null"))
	})
}

// TestP8Characters: in texts, and in keys, each byte below 32 and quotes and backslashes are escaped, nothing else.
func TestP8Characters(t *testing.T) {
	want := func(s, written string) {
		t.Helper()
		for _, sorted := range []bool{false, true} {
			wantWritten(t, -1, sorted, `"`+written+`"`, txt(s))
			wantWritten(t, -1, sorted, `{"`+written+`":"x`+written+`y"}`, obj(1), txt(s), txt("x"+s+"y"))
			wantWritten(t, -1, sorted, `["`+written+written+`"]`, arr(1), txt(s+s))
		}
	}
	short := map[int]string{8: `\b`, 9: `\t`, 10: `\n`, 12: `\f`, 13: `\r`}
	for b := range 32 {
		written, is := short[b]
		if !is {
			written = fmt.Sprintf(`\u00%02x`, b)
		}
		want(string([]byte{byte(b)}), written)
	}
	for b := 32; b < 128; b++ {
		s := string([]byte{byte(b)})
		if b == '"' || b == '\\' {
			want(s, `\`+s)
		} else {
			want(s, s)
		}
	}
	for _, s := range []string{"\u0080", "\u0085", "\u00a0", "\u00ad", "é", "\u07ff", "\u0800", "€", "\u2028", "\u2029", "\ud7ff", "\ue000", "\ufdd0", "\ufeff", "\ufffd", "\ufffe", "\uffff", "\U00010000", "𝄞", "\U000e0001", "\U0010ffff"} {
		want(s, s)
	}
	want(`\u0041\n\/`, `\\u0041\\n\\/`)
	want("\"\\/\b\f\n\r\t\x00\x1f\x7fé€𝄞\u2028", `\"\\/\b\f\n\r\t\u0000\u001f`+"\x7fé€𝄞\u2028")
	long := strings.Repeat("aé€𝄞", 50000)
	want(long, long)
}

// TestP8EveryCharacter writes each character that there is.
func TestP8EveryCharacter(t *testing.T) {
	var all strings.Builder
	for c := rune(0); c <= 0x10ffff; c++ {
		if c < 0xd800 || c > 0xdfff {
			all.WriteRune(c)
		}
	}
	wantWritten(t, -1, false, `"`+escapes.Replace(all.String())+`"`, txt(all.String()))
}

func TestP8Sorted(t *testing.T) {
	want := func(sorted bool, text string, items ...api.Item) {
		t.Helper()
		wantWritten(t, -1, sorted, text, items...)
	}
	pairs := []api.Item{obj(4), txt("b"), one, txt("a"), two, txt("b"), null, txt("a"), no}
	want(false, `{"b":1,"a":2,"b":null,"a":false}`, pairs...)
	want(true, `{"a":2,"a":false,"b":1,"b":null}`, pairs...)
	beginnings := []api.Item{obj(5), txt("abc"), one, txt("b"), one, txt("ab"), one, txt(""), one, txt("a"), one}
	want(false, `{"abc":1,"b":1,"ab":1,"":1,"a":1}`, beginnings...)
	want(true, `{"":1,"a":1,"ab":1,"abc":1,"b":1}`, beginnings...)
	// By what the keys are, not by how they are written, nor by letters or by units of 16 bits.
	high := []api.Item{obj(9), txt("\U00010000"), one, txt("\uffff"), one, txt("é"), one, txt("z"), one, txt("Z"), one, txt("\x7f"), one, txt("\n"), one, txt("\\"), one, txt("]"), one}
	want(true, `{"\n":1,"Z":1,"\\":1,"]":1,"z":1,"`+"\x7f\":1,\"é\":1,\"\uffff\":1,\"\U00010000\":1}", high...)
	want(true, `{"\u0000":1,"\u0000\u0000":1,"\u0001":1," ":1}`, obj(4), txt(" "), one, txt("\x01"), one, txt("\x00\x00"), one, txt("\x00"), one)
	// Objects in objects, and in arrays; what is in an array stays in its order.
	inner := []api.Item{obj(2), txt("b"), obj(2), txt("d"), arr(2), txt("z"), txt("a"), txt("c"), obj(0), txt("a"), arr(2), obj(2), txt("f"), one, txt("e"), two, obj(2), txt("h"), one, txt("g"), two}
	want(false, `{"b":{"d":["z","a"],"c":{}},"a":[{"f":1,"e":2},{"h":1,"g":2}]}`, inner...)
	want(true, `{"a":[{"e":2,"f":1},{"g":2,"h":1}],"b":{"c":{},"d":["z","a"]}}`, inner...)
	want(true, `{"a":{"b":1,"b":2},"a":{"b":2,"b":1}}`, obj(2), txt("a"), obj(2), txt("b"), one, txt("b"), two, txt("a"), obj(2), txt("b"), two, txt("b"), one)
	want(true, `["b","a",2,1]`, arr(4), txt("b"), txt("a"), two, one)
}

// TestP8Stable: of many pairs with few keys those of the same key stay in their order.
func TestP8Stable(t *testing.T) {
	r := rand.New(rand.NewSource(7))
	for _, size := range []int{2, 3, 11, 12, 13, 20, 21, 50, 51, 300, 2000} {
		items := []api.Item{obj(size)}
		for i := range size {
			items = append(items, txt([]string{"", "a", "ab", "b", "é"}[r.Intn(5)]), num(0x3ff0000000000000+uint64(i)))
		}
		wantRight(t, items, -1, true)
		wantRight(t, items, 3, true)
		wantRight(t, items, -1, false)
	}
}

// wrongItems are items each of which has one fault, by which it may stand nowhere in a value.
var wrongItems = []api.Item{
	{Kind: -1}, {Kind: 7}, {Kind: 8}, {Kind: -1 << 63}, {Kind: 1<<63 - 1}, {Kind: 1 << 32}, {Kind: 256},
	arr(-1), obj(-1), arr(-1 << 63), obj(-1 << 63), arr(-1 << 32), obj(-2),
	num(0x7ff0000000000000), num(0xfff0000000000000), num(0x7ff8000000000000), num(0x7ff0000000000001), num(0x7fffffffffffffff), num(1<<64 - 1),
	txt("\x80"), txt("\xff"), txt("\xc3"), txt("a\xc3"), txt("\xc3a"), txt("\xe2\x82"), txt("\xf0\x9d\x84"), txt("\xc0\x80"), txt("\xc1\xbf"), txt("\xe0\x80\x80"), txt("\xe0\x9f\xbf"), txt("\xf0\x80\x80\x80"), txt("\xf0\x8f\xbf\xbf"), txt("\xed\xa0\x80"), txt("\xed\xbf\xbf"), txt("\xed\xa0\x80\xed\xb0\x80"), txt("\xf4\x90\x80\x80"), txt("\xf5\x80\x80\x80"), txt("é\xa9"), txt("\ufffd\xff"),
	{Kind: api.Null, N: 1}, {Kind: api.False, N: 1}, {Kind: api.True, N: 1}, {Kind: api.Number, N: 1}, {Kind: api.Text, N: 1}, {Kind: api.Text, S: "a", N: 1}, {Kind: api.Null, N: -1}, {Kind: api.Number, N: -1},
	{Kind: api.Null, Bits: 1}, {Kind: api.False, Bits: 1}, {Kind: api.True, Bits: 1 << 63}, {Kind: api.Text, Bits: 1}, {Kind: api.Text, S: "a", Bits: 1}, {Kind: api.Array, Bits: 1}, {Kind: api.Object, Bits: 1 << 63},
	{Kind: api.Null, S: "a"}, {Kind: api.False, S: "a"}, {Kind: api.True, S: "\x00"}, {Kind: api.Number, S: "1"}, {Kind: api.Number, Bits: 1, S: " "}, {Kind: api.Array, S: "a"}, {Kind: api.Object, S: "a"},
}

// TestP8WrongItems lays each wrong item where a right one is right: alone, among others, deep within, as a key.
func TestP8WrongItems(t *testing.T) {
	around := func(item api.Item) [][]api.Item {
		return [][]api.Item{
			{item},
			{arr(1), item},
			{arr(3), item, one, one},
			{arr(3), one, item, one},
			{arr(3), one, one, item},
			{obj(1), txt("a"), item},
			{obj(2), txt("a"), item, txt("a"), one},
			{obj(2), txt("a"), one, txt("a"), item},
			{obj(1), txt("a"), arr(2), obj(0), obj(1), txt("b"), item},
			nested(1000, item),
			nested(998, obj(2), txt("a"), arr(2), one, item, txt("b"), null),
		}
	}
	asKey := func(item api.Item) [][]api.Item {
		return [][]api.Item{
			{obj(1), item, one},
			{obj(2), txt("a"), one, item, one},
			{obj(2), item, arr(0), txt("a"), one},
			nested(999, obj(2), item, two, item, one),
		}
	}
	for _, item := range wrongItems {
		if item.Kind == api.Array || item.Kind == api.Object {
			wantNoValue(t, nested(999, item)...)
		}
		for _, items := range slices.Concat(around(item), asKey(item)) {
			wantNoValue(t, items...)
		}
	}
	for _, item := range []api.Item{null, no, yes, zero, num(1 << 63), num(0x7fefffffffffffff), txt(""), txt("\ufffd")} {
		for _, items := range around(item) {
			if !wantRight(t, items, -1, true) {
				t.Errorf("%.200v is a value", items)
			}
		}
		for _, items := range asKey(item) {
			if right := wantRight(t, items, -1, true); right != (item.Kind == api.Text) {
				t.Errorf("%.200v: %v", items, right)
			}
		}
	}
	for _, items := range slices.Concat(asKey(arr(0)), asKey(obj(0)), asKey(arr(1))) {
		wantNoValue(t, items...)
	}
}

// TestP8NotOne: lists that end too soon, and that go on too long.
func TestP8NotOne(t *testing.T) {
	wantNoValue(t)
	text, e := Write([]api.Item{}, -1, false)
	if text != "" || e != api.ErrValue {
		t.Errorf("no items: %q, %d", text, e)
	}
	for _, whole := range [][]api.Item{
		{null},
		{txt("a")},
		{arr(0)},
		{obj(0)},
		{arr(2), one, two},
		{obj(2), txt("a"), one, txt("b"), arr(1), obj(1), txt("c"), txt("d")},
		{arr(3), arr(0), obj(0), arr(2), arr(0), txt("")},
		nested(1000, null),
		nested(999, arr(0)),
	} {
		if !wantRight(t, whole, 1, false) {
			t.Errorf("%.200v is a value", whole)
		}
		wantNoValue(t, slices.Concat(whole, whole)...)
		for _, item := range []api.Item{null, one, txt("a"), arr(0), obj(0), arr(1)} {
			wantNoValue(t, append(slices.Clone(whole), item)...)
		}
		for i := range min(len(whole), 12) {
			wantNoValue(t, whole[:i]...)
			wantNoValue(t, whole[:len(whole)-1-i]...)
		}
	}
	wantNoValue(t, obj(1), txt("a"))
	wantNoValue(t, obj(1), txt("a"), obj(1), txt("b"))
	wantNoValue(t, obj(1), txt("a"), one, two)
	wantNoValue(t, obj(2), txt("a"), one, txt("b"))
	wantNoValue(t, obj(1), txt("a"), arr(1))
}

// TestP8NoListIsSoLong: an N that no list can have ends with the items, and takes no room.
func TestP8NoListIsSoLong(t *testing.T) {
	behind := [][]api.Item{nil, {one}, {txt("a")}, {txt("a"), one}, {txt("a"), one, txt("b"), two}, slices.Repeat([]api.Item{txt("a")}, 1000)}
	for _, n := range []int{1001, 1 << 31, 1<<31 + 1, 1 << 32, 1<<32 + 1, 1<<32 + 2, 1<<61 + 1, 1 << 62, 1<<62 + 1, 1<<62 + 2, 1<<63 - 1, 1<<63 - 2} {
		for _, rest := range behind {
			for _, nest := range []api.Item{arr(n), obj(n)} {
				wantNoValue(t, append([]api.Item{nest}, rest...)...)
				wantNoValue(t, append(nested(999, nest), rest...)...)
				wantNoValue(t, append([]api.Item{obj(1), txt("a"), nest, txt("b"), nest}, rest...)...)
				wantNoValue(t, append([]api.Item{nest, txt("a"), nest, nest, txt("a")}, rest...)...)
			}
		}
	}
}

// TestP8Deep: as deep as MaxDepth, and one more: in arrays, in objects, at the beginning and behind others.
func TestP8Deep(t *testing.T) {
	for depth := 997; depth <= 1003; depth++ {
		objects := append(slices.Repeat([]api.Item{obj(1), txt("a")}, depth-1), obj(0))
		second := append(slices.Repeat([]api.Item{arr(2), arr(0)}, depth-1), obj(0))
		pairs := append(slices.Repeat([]api.Item{obj(2), txt("b"), arr(0), txt("a")}, depth-1), arr(0))
		for _, items := range [][]api.Item{
			nested(depth-1, arr(0)), nested(depth-1, obj(0)), nested(depth, null), nested(depth, txt("a")),
			nested(depth-1, obj(1), txt("a"), one), objects, second, pairs,
		} {
			if right := wantRight(t, items, -1, true); right != (depth <= api.MaxDepth) {
				t.Errorf("%d deep: %v", depth, right)
			}
		}
	}
	wantWritten(t, -1, false, strings.Repeat("[", 1000)+strings.Repeat("]", 1000), nested(999, arr(0))...)
	eachIndent(func(indent int, sorted bool) {
		wantRight(t, nested(999, arr(2), one, two), indent, sorted)
		wantNoValue(t, nested(1000, arr(0))...)
	})
}

// TestP8EveryShortList tries all lists of few items.
func TestP8EveryShortList(t *testing.T) {
	t.Parallel()
	alphabet := []api.Item{null, txt("b"), txt("a"), arr(0), arr(1), arr(2), obj(0), obj(1), obj(2), arr(-1)}
	lists := [][]api.Item{nil}
	right := 0
	for range 5 {
		var longer [][]api.Item
		for _, list := range lists {
			for _, item := range alphabet {
				longer = append(longer, append(slices.Clone(list), item))
			}
		}
		for i, list := range longer {
			if wantRight(t, list, i%3-1, i%2 == 0) {
				right++
			}
		}
		lists = longer
	}
	if right < 500 {
		t.Fatalf("only %d of the lists are values", right)
	}
}

// drawnItems is some value, nested up to depth deep.
func drawnItems(r *rand.Rand, depth int) []api.Item {
	keys := []string{"", "a", "ab", "b", "é", "€", "\uffff", "\U00010000", "a\x00", "\x7f", "\"", "\\", "a\n", "A"}
	if depth == 0 || r.Intn(3) == 0 {
		return []api.Item{[]api.Item{null, no, yes, zero, one, num(r.Uint64() &^ (1 << 62)), txt(""), txt(keys[r.Intn(len(keys))] + keys[r.Intn(len(keys))])}[r.Intn(8)]}
	}
	size := r.Intn(5)
	items := []api.Item{arr(size)}
	if r.Intn(2) == 0 {
		items[0] = obj(size)
	}
	for range size {
		if items[0].Kind == api.Object {
			items = append(items, txt(keys[r.Intn(len(keys))]))
		}
		items = append(items, drawnItems(r, depth-1)...)
	}
	return items
}

// spoiltItems is a list with one item too much, too few or another.
func spoiltItems(r *rand.Rand, items []api.Item) []api.Item {
	items = slices.Clone(items)
	at := r.Intn(len(items))
	switch r.Intn(8) {
	case 0:
		return slices.Delete(items, at, at+1)
	case 1:
		return slices.Insert(items, at, items[r.Intn(len(items))])
	case 2:
		items[at].N += r.Intn(5) - 2
	case 3:
		items[at].Kind = r.Intn(9) - 1
	case 4:
		items[at] = wrongItems[r.Intn(len(wrongItems))]
	case 5:
		other := r.Intn(len(items))
		items[at], items[other] = items[other], items[at]
	case 6:
		items[at].Bits = []uint64{0, 1, 0x7ff0000000000000, 1 << 63}[r.Intn(4)]
	case 7:
		items[at].S = []string{"", "a", "\xff", "é"}[r.Intn(4)]
	}
	return items
}

// TestP8Drawn holds drawn lists, right and spoilt ones, against the document's words.
func TestP8Drawn(t *testing.T) {
	t.Parallel()
	r := rand.New(rand.NewSource(8))
	right := 0
	for range 20000 {
		items := drawnItems(r, 4)
		for range r.Intn(3) {
			if len(items) > 0 {
				items = spoiltItems(r, items)
			}
		}
		if wantRight(t, items, r.Intn(18)-1, r.Intn(2) == 0) {
			right++
		}
	}
	if right < 5000 || right > 15000 {
		t.Fatalf("%d of the lists are values: too few of one kind", right)
	}
}

// TestP11ReadsAsTheValue: what Write writes is read as the value, but for the order of sorted pairs.
func TestP11ReadsAsTheValue(t *testing.T) {
	t.Parallel()
	r := rand.New(rand.NewSource(10))
	for i := range 4000 {
		items := drawnItems(r, 5)
		if i == 0 {
			items = nested(999, obj(2), txt("b"), one, txt("a"), two)
		}
		value, right := treeOf(items)
		if !right {
			t.Fatalf("%.200v is a value", items)
		}
		indent := i%18 - 1
		for sorted, want := range map[bool][]api.Item{false: items, true: flat(sortedTree(value))} {
			text, _ := Write(items, indent, sorted)
			got := reading(t, max(value.depth, 1), text)
			if !got.same(answer{want, api.OK, len(text)}) {
				t.Fatalf("%.400q: %+v, want %+v", text, got, want)
			}
		}
	}
}
