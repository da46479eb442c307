package decant

import (
	"math/rand"
	"slices"
	"strings"
	"testing"

	"decant/api"
)

// formatted is what is to come of a text, by the document's words.
func formatted(t *testing.T, text string, depth, indent int, sorted bool) api.Result {
	t.Helper()
	read := expected(text, depth)
	if read.e != api.OK {
		return api.Result{E: read.e, At: read.at}
	}
	value, right := treeOf(read.value)
	if !right {
		t.Fatalf("%.200q is read as %.200v: that is no value", text, read.value)
	}
	return api.Result{Text: textOf(t, value, indent, sorted), At: len(text)}
}

// formatting is Format's answer; the list that was handed in, and what stands behind it, must be as it was.
func formatting(t *testing.T, chunks []string, depth, indent int, sorted bool) api.Result {
	t.Helper()
	given := append(slices.Clone(chunks), "spare", "spare")
	result := Format(given[:len(chunks)], depth, indent, sorted)
	if !slices.Equal(given[:len(chunks)], chunks) || given[len(chunks)] != "spare" || given[len(chunks)+1] != "spare" {
		t.Fatalf("Format has written into %.200q", chunks)
	}
	return result
}

// wantFormatted asks for what comes of a text, in chunks of every size.
func wantFormatted(t *testing.T, text string, depth, indent int, sorted bool, want api.Result) {
	t.Helper()
	for size := 1; size <= max(len(text), 1); size++ {
		if got := formatting(t, pieces(text, size), depth, indent, sorted); got != want {
			t.Errorf("Format(%.80q in pieces of %d, %d, %d, %v) = %+v, want %+v", text, size, depth, indent, sorted, got, want)
			return
		}
	}
}

func TestP9Example(t *testing.T) {
	wantFormatted(t, `{"b":[1.0,2e0],"a":"\u0041"}`, 2, -1, true, api.Result{Text: `{"a":"A","b":[1,2]}`, At: 28})
	wantFormatted(t, `{"b":[1.0,2e0],"a":"\u0041"}`, 2, -1, false, api.Result{Text: `{"b":[1,2],"a":"A"}`, At: 28})
	wantFormatted(t, `{"b":[1.0,2e0],"a":"\u0041"}`, 1000, 0, true, api.Result{Text: "{\n\"a\": \"A\",\n\"b\": [\n1,\n2\n]\n}", At: 28})
	wantFormatted(t, `{"b":[1.0,2e0],"a":"\u0041"}`, 3, 3, false, api.Result{Text: "{\n   \"b\": [\n      1,\n      2\n   ],\n   \"a\": \"A\"\n}", At: 28})
}

func TestP9Values(t *testing.T) {
	for text, want := range map[string]string{
		"null": "null", " true": "true", "false\n": "false", "\t 10.50e1 \r\n": "105", "-0.0e5": "-0", "1E21": "1e+21", "0.0000001": "1e-7", "9007199254740993": "9007199254740992",
		`""`: `""`, ` "a\/\u00e9\uD834\udd1e\u0008\u001F\u007f" `: `"a/é𝄞\b\u001f` + "\x7f\"", `"\u0022\u005c"`: `"\"\\"`, "\"\u2028\"": "\"\u2028\"",
		"[ ]": "[]", " { } ": "{}", "[1 , 2]": "[1,2]", ` { "a" : 1 , "a" : [ { } ] } `: `{"a":1,"a":[{}]}`,
	} {
		wantFormatted(t, text, 3, -1, false, api.Result{Text: want, At: len(text)})
		wantFormatted(t, text, 3, -1, true, api.Result{Text: want, At: len(text)})
	}
}

// TestP9Errors: each error of a text, with its place and without a text, whatever the indent.
func TestP9Errors(t *testing.T) {
	for _, c := range []struct {
		text string
		e    api.Errno
		at   int
	}{
		{"", api.ErrEnd, 0}, {" ", api.ErrEnd, 1}, {"[1", api.ErrEnd, 2}, {"nul", api.ErrEnd, 3}, {`{"a":`, api.ErrEnd, 5}, {`"a`, api.ErrEnd, 2}, {"-", api.ErrEnd, 1}, {"[" + nines[:309], api.ErrEnd, 310},
		{"[1,]", api.ErrSyntax, 3}, {"nuL", api.ErrSyntax, 2}, {"01", api.ErrSyntax, 1}, {"1 1", api.ErrSyntax, 2}, {"[]]", api.ErrSyntax, 2}, {"\xff", api.ErrSyntax, 0}, {"{1}", api.ErrSyntax, 1},
		{"\"\xff", api.ErrText, 1}, {"[\"é\xa9\"]", api.ErrText, 4}, {"\"\xed\xa0\x80\"", api.ErrText, 2}, {"{\"\xc3\":1}", api.ErrText, 3},
		{"[[[]]]", api.ErrDepth, 2}, {`{"a":[{}]}`, api.ErrDepth, 6}, {"[[],[],[[", api.ErrDepth, 8},
		{`"\ud800x"`, api.ErrSurrogate, 7}, {`"\udc00"`, api.ErrSurrogate, 4}, {`{"\ud800\n":1}`, api.ErrSurrogate, 9},
		{"[1e400]", api.ErrRange, 5}, {"1e309", api.ErrRange, 4}, {nines, api.ErrRange, 400}, {"[" + nines + "]", api.ErrRange, 401}, {" " + nines + " ", api.ErrRange, 401},
	} {
		for _, indent := range []int{-1, 0, 16} {
			wantFormatted(t, c.text, 2, indent, indent == 0, api.Result{E: c.e, At: c.at})
		}
		for _, behind := range []string{"", "]", " 1", "\xff"} {
			if c.e != api.ErrEnd && c.text != nines && c.at < len(c.text) {
				wantFormatted(t, c.text+behind, 2, 1, true, api.Result{E: c.e, At: c.at})
			}
		}
	}
}

// TestP9Arguments: a depth or an indent that may not be comes first, and tells no place.
func TestP9Arguments(t *testing.T) {
	for _, text := range []string{"", "1", "[1]", "[1,]", "[", "\"\xff"} {
		for _, depth := range []int{0, -1, 1001, 1 << 32, 1<<32 + 1, -1 << 63, 1<<63 - 1} {
			for _, indent := range []int{-2, -1, 0, 16, 17} {
				wantFormatted(t, text, depth, indent, false, api.Result{E: api.ErrArg})
			}
		}
		for _, indent := range []int{-2, 17, -17, 1 << 32, 1<<32 - 1, -1 << 63, 1<<63 - 1} {
			for _, depth := range []int{0, 1, 2, 1000, 1001} {
				wantFormatted(t, text, depth, indent, true, api.Result{E: api.ErrArg})
			}
		}
	}
	eachIndent(func(indent int, sorted bool) {
		for _, depth := range []int{1, 2, 999, 1000} {
			wantFormatted(t, " 1", depth, indent, sorted, api.Result{Text: "1", At: 2})
		}
	})
}

func TestP9Chunks(t *testing.T) {
	for _, chunks := range [][]string{nil, {}, {""}, {"", "", ""}} {
		if got := Format(chunks, 1, -1, false); got != (api.Result{E: api.ErrEnd}) {
			t.Errorf("Format(%q) = %+v, want ErrEnd at 0", chunks, got)
		}
	}
	for _, chunks := range [][]string{{"[1,2]"}, {"[", "1", ",", "2", "]"}, {"", "[1", "", ",2", "]", ""}, {"[1,2", "]", ""}} {
		if got := formatting(t, chunks, 1, -1, false); got != (api.Result{Text: "[1,2]", At: 5}) {
			t.Errorf("Format(%q) = %+v", chunks, got)
		}
	}
	// Chunks are laid together as they are, nothing between.
	for _, chunks := range [][]string{{"1", "0", "", "e1"}, {"10e", "1"}} {
		if got := formatting(t, chunks, 1, -1, false); got != (api.Result{Text: "100", At: 4}) {
			t.Errorf("Format(%q) = %+v", chunks, got)
		}
	}
	if got := formatting(t, []string{"\"\xf0\x9d", "\x84\x9e\\ud8", "34\\", "udd1e\""}, 1, -1, false); got != (api.Result{Text: `"𝄞𝄞"`, At: 18}) {
		t.Errorf("%+v", got)
	}
	if got := formatting(t, []string{"[1,", "]", "2]", "x"}, 1, -1, false); got != (api.Result{E: api.ErrSyntax, At: 3}) {
		t.Errorf("%+v", got)
	}
}

// TestP9Deep: so deep as may be, with the greatest depth too.
func TestP9Deep(t *testing.T) {
	for _, depth := range []int{1, 2, 999, 1000} {
		text := strings.Repeat("[", depth) + strings.Repeat("]", depth)
		for _, chunks := range [][]string{{text}, pieces(text, 7)} {
			if got := formatting(t, chunks, depth, -1, true); got != (api.Result{Text: text, At: 2 * depth}) {
				t.Errorf("%d deep: %.80v", depth, got)
			}
			if depth > 1 {
				if got := formatting(t, chunks, depth-1, -1, true); got != (api.Result{E: api.ErrDepth, At: depth - 1}) {
					t.Errorf("%d deep, one too much: %.80v", depth, got)
				}
			}
		}
	}
	text := strings.Repeat(`{"b":0,"a":`, 1000) + "[" + strings.Repeat("}", 1000)
	if got := formatting(t, []string{text}, 1000, 16, true); got != (api.Result{E: api.ErrDepth, At: 11000}) {
		t.Errorf("%.80v", got)
	}
	text = strings.Repeat(`{"b":0,"a":`, 1000) + "null" + strings.Repeat("}", 1000)
	if got, want := formatting(t, []string{text}, 1000, 16, true), formatted(t, text, 1000, 16, true); got != want || got.E != api.OK {
		t.Errorf("%.80v", got)
	}
}

// TestP9Some: texts, right and wrong ones, with each indent, sorted and not.
func TestP9Some(t *testing.T) {
	for _, text := range some {
		eachIndent(func(indent int, sorted bool) {
			wantFormatted(t, text, 4, indent, sorted, formatted(t, text, 4, indent, sorted))
		})
	}
}

// wantAgain asks that Format writes what it has written again, byte by byte.
func wantAgain(t *testing.T, written string, depth, indent int, sorted bool) {
	t.Helper()
	want := api.Result{Text: written, At: len(written)}
	if got := Format([]string{written}, depth, indent, sorted); got != want {
		t.Fatalf("with the indent %d, sorted %v, of %.400q comes %.400v", indent, sorted, written, got)
	}
}

// TestP11Formatted holds what comes of drawn texts, in drawn chunks, against the document's words; it comes again.
func TestP11Formatted(t *testing.T) {
	t.Parallel()
	r := rand.New(rand.NewSource(11))
	right := 0
	for range 6000 {
		text := drawnText(r, 4)
		if r.Intn(4) == 0 {
			text = spoilt(r, text)
		}
		depth, indent, sorted := 1+r.Intn(5), r.Intn(18)-1, r.Intn(2) == 0
		want := formatted(t, text, depth, indent, sorted)
		for _, chunks := range [][]string{{text}, cut(r, text)} {
			if got := formatting(t, chunks, depth, indent, sorted); got != want {
				t.Fatalf("Format(%q, %d, %d, %v) = %+v, want %+v", chunks, depth, indent, sorted, got, want)
			}
		}
		if want.E == api.OK {
			right++
			wantAgain(t, want.Text, depth, indent, sorted)
		}
	}
	if right < 2000 || right > 5000 {
		t.Fatalf("%d of the texts are right ones: too few of one kind", right)
	}
}

// TestP11Again: what is written of a value comes again, with each indent, sorted and not.
func TestP11Again(t *testing.T) {
	t.Parallel()
	r := rand.New(rand.NewSource(12))
	for range 200 {
		items := drawnItems(r, 5)
		eachIndent(func(indent int, sorted bool) {
			text, e := Write(items, indent, sorted)
			if e != api.OK {
				t.Fatalf("Write(%v) = %d", items, e)
			}
			wantAgain(t, text, 5, indent, sorted)
		})
	}
}

func FuzzFormat(f *testing.F) {
	for i, text := range slices.Concat(some, beginnings) {
		f.Add(text, i%7, i%18-1, i%2 == 0)
	}
	f.Fuzz(func(t *testing.T, text string, size, indent int, sorted bool) {
		size = max(size, 1)
		indent = int(uint(indent)%18) - 1
		want := formatted(t, text, 3, indent, sorted)
		if got := formatting(t, pieces(text, size), 3, indent, sorted); got != want {
			t.Fatalf("%q in pieces of %d: %+v, want %+v", text, size, got, want)
		}
		if want.E == api.OK {
			wantAgain(t, want.Text, 3, indent, sorted)
		}
	})
}

// FuzzWrite makes an item of each three bytes.
func FuzzWrite(f *testing.F) {
	f.Add("\x00\x00\x00", 0, false)
	f.Add("\x06\x02\x00\x04\x00b\x05\x00\x00\x04\x00a\x03\x00\x3f", 3, true)
	f.Fuzz(func(t *testing.T, bytes string, indent int, sorted bool) {
		var items []api.Item
		for ; len(bytes) >= 3; bytes = bytes[3:] {
			item := api.Item{Kind: int(int8(bytes[0])), N: int(int8(bytes[1]))}
			switch {
			case item.Kind == api.Number:
				item.Bits = uint64(bytes[2])<<56 | uint64(bytes[1])<<48
				item.N = 0
			case bytes[2] != 0:
				item.S = bytes[2:3]
			}
			items = append(items, item)
		}
		wantRight(t, items, int(uint(indent)%18)-1, sorted)
	})
}
