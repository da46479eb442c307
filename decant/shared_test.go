package decant

import (
	"math/rand"
	"reflect"
	"slices"
	"strings"
	"sync"
	"testing"
	"unsafe"

	"decant/api"
)

// some are texts, right and wrong ones, in which a cut may fall within all that has several bytes.
var some = []string{
	`{"b":[1.0,2e0],"a":"\u0041"}`,
	"[\"aé€𝄞\",\"\\ud834\\uDD1e\\\\\\n\", -12.50e+01 ,true,null ,{ }]",
	" \n[false, [ [ ] ] , {\"\\u00e9\" : -0.0}]\t",
	"[" + bound + "e-5,\"\xf4\x8f\xbf\xbf\"]",
	"12345678901234567890.125e-3",
	`"\ud800\udc00\ud800\ud800"`,
	"[\"\xe2\x82\",1]",
	"[1e30,1e309]",
	`{"a":{"b":{"c":[[]]}}}`,
	"[1,2",
	"[1,2}",
	"",
}

// TestP11EveryCut: where a text is cut into two or three chunks, empty ones too, does not matter.
func TestP11EveryCut(t *testing.T) {
	for _, text := range some {
		want := expected(text, 4)
		wantAnswer(t, text, 4, want)
		for i := range len(text) + 1 {
			for j := i; j <= len(text); j++ {
				if got := reading(t, 4, text[:i], text[i:j], text[j:]); !got.same(want) {
					t.Fatalf("%.60q cut at %d and %d: %+v, want %+v", text, i, j, got, want)
				}
			}
		}
	}
}

// TestP2InTurns: parsers that are fed in turns, a byte each, do not come into each other's way.
func TestP2InTurns(t *testing.T) {
	var parsers []*Parser
	for range some {
		parsers = append(parsers, parser(t, 4))
	}
	for i := range 400 {
		for k, text := range some {
			if i < len(text) {
				parsers[k].Feed(text[i : i+1])
			}
		}
	}
	for k, text := range some {
		value, e, at := parsers[k].Close()
		if got, want := (answer{value, e, at}), expected(text, 4); !got.same(want) {
			t.Errorf("%.60q: %+v, want %+v", text, got, want)
		}
		clear(value[:cap(value)])
	}
}

// TestP2AtTheSameTime: nor do those that are fed at the same time.
func TestP2AtTheSameTime(t *testing.T) {
	var all sync.WaitGroup
	for range 8 {
		for _, text := range some {
			all.Go(func() {
				p, _ := NewParser(4)
				for i := range len(text) {
					p.Feed(text[i : i+1])
				}
				value, e, at := p.Close()
				if got, want := (answer{value, e, at}), expected(text, 4); !got.same(want) {
					t.Errorf("%.60q: %+v, want %+v", text, got, want)
				}
			})
		}
	}
	all.Wait()
}

// TestP2ListsAreTheCallers: what an owner writes into a list, and into its spare room, changes no other answer.
func TestP2ListsAreTheCallers(t *testing.T) {
	want := []api.Item{arr(3), txt("a"), obj(1), txt("b"), yes, one}
	spoil := api.Item{Kind: 77, N: -5, Bits: 99, S: "spoilt"}
	read := func() []api.Item {
		p := parser(t, 2)
		p.Feed(`["a",{"b":true},1]`)
		value, _, _ := p.Close()
		return value
	}
	first, second := read(), read()
	for _, list := range [][]api.Item{first, second} {
		for i := range list[:cap(list)] {
			list[:cap(list)][i] = spoil
		}
		if got := read(); !slices.Equal(got, want) {
			t.Errorf("%+v, want %+v", got, want)
		}
	}
	second = read()
	first = append(first[:0], spoil, spoil)
	if !slices.Equal(second, want) {
		t.Errorf("%+v, want %+v", second, want)
	}
}

// TestP2ChunksAreNotKept: the memory of a chunk is another's again as soon as Feed has answered.
func TestP2ChunksAreNotKept(t *testing.T) {
	text := `{"key":["text","é\n",123.25,null]}`
	for _, size := range []int{1, 2, 7, len(text)} {
		p := parser(t, 2)
		for _, piece := range pieces(text, size) {
			room := []byte(piece)
			p.Feed(unsafe.String(&room[0], len(room)))
			for i := range room {
				room[i] = '#'
			}
		}
		value, e, _ := p.Close()
		want := []api.Item{obj(1), txt("key"), arr(4), txt("text"), txt("é\n"), num(0x405ed00000000000), null}
		if e != api.OK || !slices.Equal(value, want) {
			t.Errorf("pieces of %d: %+v, %d, want %+v", size, value, e, want)
		}
	}
}

// TestNothingIsKept: behind a wrong byte only its error and its place are kept, behind Close nothing.
func TestNothingIsKept(t *testing.T) {
	p := parser(t, 3)
	p.Feed(`[["a","b`)
	p.Feed("\xff")
	if want := (Parser{came: 8, wrong: api.ErrText}); !reflect.DeepEqual(*p, want) {
		t.Errorf("%+v, want %+v", *p, want)
	}
	p.Close()
	if want := (Parser{closed: true}); !reflect.DeepEqual(*p, want) {
		t.Errorf("%+v, want %+v", *p, want)
	}
	p = parser(t, 3)
	p.Feed("[1]")
	p.Close()
	if want := (Parser{closed: true}); !reflect.DeepEqual(*p, want) {
		t.Errorf("%+v, want %+v", *p, want)
	}
}

// TestP1Ends: long texts are read in a time that grows with their length alone, in whatever chunks they come.
func TestP1Ends(t *testing.T) {
	noughts := strings.Repeat("0", 300000)
	for text, value := range map[string][]api.Item{
		"1e" + noughts + "2":                              {num(0x4059000000000000)},
		"[1" + noughts + "e-300000]":                      {arr(1), one},
		"0." + noughts + "1e+" + noughts + "300001":       {one},
		bound[:308] + "1e" + noughts:                      {num(0x7fefffffffffffff)},
		"[" + strings.Repeat("[],", 100000) + "[]]":       append([]api.Item{arr(100001)}, slices.Repeat([]api.Item{arr(0)}, 100001)...),
		`"` + strings.Repeat(`\ud800\udc00`, 20000) + `"`: {txt(strings.Repeat("\U00010000", 20000))},
		strings.Repeat(" ", 300000) + "null":              {null},
	} {
		wantValue(t, text, value...)
	}
}

// TestP1AnyBytes: whatever comes, in whatever order of calls, there is an answer, and beside an error nothing.
func TestP1AnyBytes(t *testing.T) {
	r := rand.New(rand.NewSource(6))
	often := "[{\"\\ud8dc0}],:1e- ntf\xc3\xa9"
	for range 20000 {
		p := parser(t, 1+r.Intn(1000))
		for range r.Intn(6) {
			chunk := make([]byte, r.Intn(12))
			for i := range chunk {
				chunk[i] = often[r.Intn(len(often))]
				if r.Intn(10) == 0 {
					chunk[i] = byte(r.Intn(256))
				}
			}
			p.Feed(string(chunk))
		}
		value, e, at := p.Close()
		if e != api.OK && value != nil || e < api.OK || e == api.ErrArg || e >= api.ErrValue || at < 0 {
			t.Fatalf("%+v, %d at %d", value, e, at)
		}
	}
}

// TestP2AnswersAreNewMemory: what a caller does with the memory of its items or chunks later changes no text that
// was written.
func TestP2AnswersAreNewMemory(t *testing.T) {
	for _, s := range []string{"a", "text", "é€𝄞", strings.Repeat("x", 1000)} {
		room := []byte(s)
		items := []api.Item{obj(1), txt(unsafe.String(&room[0], len(room))), txt(unsafe.String(&room[0], len(room)))}
		text, _ := Write(items, -1, true)
		alone, _ := Write(items[1:2], -1, false)
		clear(room)
		clear(items)
		if want := `{"` + s + `":"` + s + `"}`; text != want || alone != `"`+s+`"` {
			t.Errorf("%q and %q, want %q", text, alone, want)
		}
		room = []byte(`"` + s + `"`)
		chunks := []string{unsafe.String(&room[0], len(room))}
		result := Format(chunks, 1, -1, false)
		clear(room)
		clear(chunks)
		if result.Text != `"`+s+`"` {
			t.Errorf("%q, want %q", result.Text, s)
		}
	}
}

// TestP2WrittenAtTheSameTime: the same items and chunks may be handed in by several at the same time.
func TestP2WrittenAtTheSameTime(t *testing.T) {
	items := []api.Item{obj(3), txt("b"), arr(2), one, txt("é"), txt("a"), obj(2), txt("d"), null, txt("c"), yes, txt("b"), num(1)}
	chunks := []string{`{"b":[1,`, `"é"],"a":{"d":null,"c":true},"b`, `":5e-324}`}
	var all sync.WaitGroup
	value, _ := treeOf(items)
	for i := range 72 {
		indent, sorted := i%18-1, i%4 < 2
		want := textOf(t, value, indent, sorted)
		all.Go(func() {
			text, e := Write(items, indent, sorted)
			if text != want || e != api.OK {
				t.Errorf("Write: %q, %d, want %q", text, e, want)
			}
			if got := Format(chunks, 2, indent, sorted); got.Text != want || got.E != api.OK {
				t.Errorf("Format: %+v, want %q", got, want)
			}
		})
	}
	all.Wait()
}

// TestP1WriteEnds: great values are written in a time that hangs on what is written alone.
func TestP1WriteEnds(t *testing.T) {
	const size = 100000
	many := append([]api.Item{obj(size)}, slices.Repeat([]api.Item{txt("key"), null}, size)...)
	wantRight(t, many, 1, true)
	falling := []api.Item{obj(size)}
	for i := range size {
		falling = append(falling, txt(string(rune(0x10ffff-i))), arr(0))
	}
	wantRight(t, falling, -1, true)
	wantRight(t, append([]api.Item{arr(size)}, slices.Repeat([]api.Item{obj(1), txt(""), one}, size)...), 0, true)
	// Each object has the rest in it, and would be gone through once more for each around it.
	deep := append(slices.Repeat([]api.Item{obj(2), txt("b"), null, txt("a")}, 999), many...)
	wantRight(t, deep, -1, true)
}

// TestP1AnyItems: whatever items come there is an answer, and beside an error nothing.
func TestP1AnyItems(t *testing.T) {
	r := rand.New(rand.NewSource(13))
	numbers := []int{0, 0, 0, 1, 1, 2, 3, -1, 1 << 62, 1<<63 - 1, -1 << 63}
	for range 50000 {
		items := make([]api.Item, r.Intn(6))
		for i := range items {
			items[i].Kind = r.Intn(9) - 1
			if r.Intn(2) == 0 {
				items[i].N = numbers[r.Intn(len(numbers))]
			}
			if r.Intn(8) == 0 {
				items[i].Bits = r.Uint64()
			}
			if r.Intn(8) == 0 {
				items[i].S = string([]byte{byte(r.Intn(256))})
			}
		}
		wantRight(t, items, r.Intn(18)-1, r.Intn(2) == 0)
	}
}
