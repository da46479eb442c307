package decant

import (
	"slices"
	"strings"
	"testing"

	"decant/api"
)

var (
	null  = api.Item{Kind: api.Null}
	no    = api.Item{Kind: api.False}
	yes   = api.Item{Kind: api.True}
	zero  = num(0)
	one   = num(0x3ff0000000000000)
	two   = num(0x4000000000000000)
	nines = strings.Repeat("9", 400)
)

func num(bits uint64) api.Item { return api.Item{Kind: api.Number, Bits: bits} }
func txt(s string) api.Item    { return api.Item{Kind: api.Text, S: s} }
func arr(n int) api.Item       { return api.Item{Kind: api.Array, N: n} }
func obj(n int) api.Item       { return api.Item{Kind: api.Object, N: n} }

func parser(t *testing.T, depth int) *Parser {
	t.Helper()
	p, e := NewParser(depth)
	if p == nil || e != api.OK {
		t.Fatalf("NewParser(%d) = %v, %d", depth, p, e)
	}
	return p
}

func TestP5Bounds(t *testing.T) {
	for _, depth := range []int{0, -1, 1001, -1000, 1 << 62, -1 << 63, 1<<63 - 1, 1 << 32} {
		if p, e := NewParser(depth); p != nil || e != api.ErrArg {
			t.Errorf("NewParser(%d) = %v, %d, want nil and ErrArg", depth, p, e)
		}
	}
	for _, depth := range []int{1, 2, 999, 1000} {
		p := parser(t, depth)
		if value, e, at := p.Close(); value != nil || e != api.ErrEnd || at != 0 {
			t.Errorf("depth %d: something has come: %v, %d at %d", depth, value, e, at)
		}
	}
}

// TestP5Depth: so deep, and no deeper, and no less deep behind what has ended.
func TestP5Depth(t *testing.T) {
	for _, depth := range []int{1, 2, 3, 999, 1000} {
		arrays := strings.Repeat("[", depth)
		objects := strings.Repeat(`{"":`, depth-1) + "{"
		wantAnswer(t, arrays+strings.Repeat("]", depth), depth, answer{append(slices.Repeat([]api.Item{arr(1)}, depth-1), arr(0)), api.OK, 2 * depth})
		wantAnswer(t, objects+strings.Repeat("}", depth), depth, answer{append(slices.Repeat([]api.Item{obj(1), txt("")}, depth-1), obj(0)), api.OK, len(objects) + depth})
		for _, b := range []string{"[", "{"} {
			wantAnswer(t, arrays+b, depth, answer{nil, api.ErrDepth, depth})
			wantAnswer(t, arrays+" 1 , "+b, depth, answer{nil, api.ErrDepth, depth + 5})
			wantAnswer(t, objects+`"": `+b, depth, answer{nil, api.ErrDepth, len(objects) + 4})
			wantAnswer(t, objects+`"":1,"":`+b, depth, answer{nil, api.ErrDepth, len(objects) + 8})
			// Where no value may stand, that comes first.
			wantAnswer(t, objects+b, depth, answer{nil, api.ErrSyntax, len(objects)})
			wantAnswer(t, arrays+"1"+b, depth, answer{nil, api.ErrSyntax, depth + 1})
			wantAnswer(t, arrays+nines+b, depth, answer{nil, api.ErrRange, depth + 400})
		}
		wantAnswer(t, arrays+"x", depth, answer{nil, api.ErrSyntax, depth})
	}
	wantAnswer(t, "[[],[],{},[1]]", 2, answer{[]api.Item{arr(4), arr(0), arr(0), obj(0), arr(1), one}, api.OK, 14})
	wantAnswer(t, "[[],[],[[]]]", 2, answer{nil, api.ErrDepth, 8})
	wantAnswer(t, "[]", 1, answer{[]api.Item{arr(0)}, api.OK, 2})
	wantAnswer(t, "[[0]]", 1, answer{nil, api.ErrDepth, 1})
}

// TestP6Tells: Feed tells an error with the chunk in which the wrong byte comes, not ahead, and always from then
// on.
func TestP6Tells(t *testing.T) {
	for _, c := range []struct {
		ahead, wrong string
		e            api.Errno
	}{
		{"[1,", "]", api.ErrSyntax},
		{`"\ud800`, "x", api.ErrSurrogate},
		{"\"\xe2\x82", "\"", api.ErrText},
		{"[[", "[", api.ErrDepth},
		{"[1e30", "9", api.ErrRange},
		{"[" + nines, ",", api.ErrRange},
		{"1 ", "1", api.ErrSyntax},
	} {
		for _, behind := range []string{"", "]", "1", "\xff", `"`, " "} {
			p := parser(t, 2)
			for i := range len(c.ahead) {
				if e := p.Feed(c.ahead[i : i+1]); e != api.OK {
					t.Errorf("%.20q: %d at %d, want OK", c.ahead, e, i)
				}
			}
			for _, chunk := range []string{c.wrong + behind, "", behind, c.wrong, "\xff", "[", "{", "9", nines, ""} {
				if e := p.Feed(chunk); e != c.e {
					t.Errorf("%.20q and %q: Feed(%.20q) = %d, want %d", c.ahead, c.wrong, chunk, e, c.e)
				}
			}
			if value, e, at := p.Close(); value != nil || e != c.e || at != len(c.ahead) {
				t.Errorf("%.20q and %q: %v, %d at %d, want %d at %d", c.ahead, c.wrong, value, e, at, c.e, len(c.ahead))
			}
		}
	}
}

func TestP6NothingComes(t *testing.T) {
	p := parser(t, 1)
	for _, chunk := range []string{"", "", "1", "", " ", "", ""} {
		if e := p.Feed(chunk); e != api.OK {
			t.Errorf("Feed(%q) = %d", chunk, e)
		}
	}
	if value, e, at := p.Close(); !slices.Equal(value, []api.Item{one}) || e != api.OK || at != 2 {
		t.Errorf("%v, %d at %d", value, e, at)
	}
}

// TestP7Once: behind Close all is ErrArg, whatever came ahead.
func TestP7Once(t *testing.T) {
	for _, text := range []string{"", "1", "[1]", "[1", "[1,]", "\"\xff", nines, `"\udc00`} {
		p := parser(t, 1)
		p.Feed(text)
		p.Close()
		for range 3 {
			for _, chunk := range []string{"", "1", "]", "\xff"} {
				if e := p.Feed(chunk); e != api.ErrArg {
					t.Errorf("%.20q: Feed(%q) behind Close = %d", text, chunk, e)
				}
			}
			if value, e, at := p.Close(); value != nil || e != api.ErrArg || at != 0 {
				t.Errorf("%.20q: Close behind Close = %v, %d at %d", text, value, e, at)
			}
		}
	}
}

func TestP7Examples(t *testing.T) {
	wantError(t, `[1,]`, api.ErrSyntax, 3)
	wantError(t, `[1`, api.ErrEnd, 2)
	wantError(t, `"\ud800x"`, api.ErrSurrogate, 7)
	wantError(t, `"\udc00"`, api.ErrSurrogate, 4)
	wantError(t, `[1e400]`, api.ErrRange, 5)
	wantAnswer(t, `[[0]]`, 1, answer{nil, api.ErrDepth, 1})
	wantError(t, "\"\xff", api.ErrText, 1)
	wantError(t, `nul`, api.ErrEnd, 3)
	wantError(t, `nuL`, api.ErrSyntax, 2)
	wantValue(t, `{"b":[1.0,2e0],"a":"\u0041"}`, obj(2), txt("b"), arr(2), one, two, txt("a"), txt("A"))
}

func TestP7Values(t *testing.T) {
	wantValue(t, "null", null)
	wantValue(t, "false", no)
	wantValue(t, " \n\r\ttrue \n\r\t", yes)
	wantValue(t, "1", one)
	wantValue(t, " 2 ", two)
	wantValue(t, "-0.0", num(1<<63))
	wantValue(t, "0.1", num(0x3fb999999999999a))
	wantValue(t, "-1E+2", num(0xc059000000000000))
	wantValue(t, `""`, txt(""))
	wantValue(t, `"a"`, txt("a"))
	wantValue(t, "[]", arr(0))
	wantValue(t, "[ \t]", arr(0))
	wantValue(t, "{}", obj(0))
	wantValue(t, "{\r\n}", obj(0))
	wantValue(t, "[1,2]", arr(2), one, two)
	wantValue(t, "[ 1\n,\t2 ]", arr(2), one, two)
	wantValue(t, "[[[]],[]]", arr(2), arr(1), arr(0), arr(0))
	wantValue(t, "[1,[2,[1]],true]", arr(3), one, arr(2), two, arr(1), one, yes)
	wantValue(t, `{"a":1}`, obj(1), txt("a"), one)
	wantValue(t, `{"a":1,"a":2,"":{}}`, obj(3), txt("a"), one, txt("a"), two, txt(""), obj(0))
	wantValue(t, ` { "x" : [ { } , "x" ] , "y" : { "z" : null } } `, obj(2), txt("x"), arr(2), obj(0), txt("x"), txt("y"), obj(1), txt("z"), null)
	wantValue(t, `["a",null,"b",false]`, arr(4), txt("a"), null, txt("b"), no)
}

func TestP7Characters(t *testing.T) {
	wantValue(t, `"\"\\\/\b\f\n\r\t"`, txt("\"\\/\x08\x0c\x0a\x0d\x09"))
	wantValue(t, `"\u0000\u001f\u0041\u007f\u0080\u07ff\u0800\uffff"`, txt("\x00\x1fA\x7f\u0080\u07ff\u0800\uffff"))
	wantValue(t, `"\u00e9\u00E9\uABCD\uabcd\uAbCd\u0123\u4567\u89ab\ucdef"`, txt("ééꯍꯍꯍģ䕧覫췯"))
	wantValue(t, `"\ud7ff\ue000"`, txt("\ud7ff\ue000"))
	wantValue(t, `"\ud800\udc00\uDBFF\uDFFF\ud834\udd1e\uD83D\ude00"`, txt("\U00010000\U0010ffff𝄞😀"))
	wantValue(t, `"\ud800\udfff\udbff\udc00"`, txt("\U000103ff\U0010fc00"))
	wantValue(t, "\" !#[]^~\x7f\"", txt(" !#[]^~\x7f"))
	wantValue(t, "\"\u0080\u07ff\u0800\ud7ff\ue000\uffff\U00010000\U0010ffff\"", txt("\u0080\u07ff\u0800\ud7ff\ue000\uffff\U00010000\U0010ffff"))
	wantValue(t, `{"\u0041é\n":"\\u0041"}`, obj(1), txt("Aé\n"), txt(`\u0041`))
	wantValue(t, `"/\\\\"`, txt(`/\\`))
	long := strings.Repeat("aé€𝄞", 5000)
	wantValue(t, `["`+long+`"]`, arr(1), txt(long))
}

func TestP7Syntax(t *testing.T) {
	for text, at := range map[string]int{
		"]": 0, "}": 0, ",": 0, ":": 0, "x": 0, "'": 0, "N": 0, "+1": 0, ".5": 0, "é": 0, "\xff": 0, "\x00": 0, "\v": 0, "\f1": 0, "\u00a0": 0, "\xef\xbb\xbf1": 0, "/**/1": 0, "Infinity": 0, "NaN": 0,
		"nulll": 4, "nullx": 4, "nUll": 1, "nu ll": 2, "truE": 3, "tx": 1, "falsE": 4, "fa\n": 2, "null1": 4, "null null": 5, `null"`: 4,
		"1 1": 2, "1x": 1, "1,": 1, "1]": 1, "1:": 1, "01": 1, "-01": 2, "00": 1, "-x": 1, "--": 1, "-+": 1, "- 1": 1, "1.x": 2, "1..": 2, "1. ": 2, "1.e": 2, "1ex": 2, "1e ": 2, "1e+-": 3, "1e+x": 3, "1e1.": 3, "1e1e": 3, "1e1+": 3, "1.5.": 3, "1-": 1, "1+": 1, "0x1": 1, "1_0": 1,
		`""x`: 2, `"" ""`: 3, `"a"b`: 3, "\"\n": 1, "\"\x00": 1, "\"a\x1f": 2, `"\x`: 2, `"\'`: 2, `"\a`: 2, `"\v`: 2, `"\0`: 2, `"\U`: 2, `"\N`: 2, "\"\\\n": 2, "\"\\\xff": 2, "\"\\\xc3\xa9": 2, `"\ux`: 3, `"\ug`: 3, `"\uG`: 3, `"\u"`: 3, `"\u `: 3, "\"\\u\xff": 3, `"\u0g`: 4, "\"\\u0/": 4, "\"\\u0:": 4, "\"\\u0@": 4, "\"\\u0`": 4, `"\u00"`: 5, `"\u00\`: 5, `"\u004"`: 6, `"\ud"`: 4, `"\ud8g`: 5, "\"\\ud80\xff": 6,
		"[,": 1, "[}": 1, "[:": 1, "[1}": 2, "[1:": 2, "[1 2": 3, "[1,,": 3, "[1,]": 3, "[]]": 2, "[][": 2, "[] 1": 3, `["a":`: 4, "[[]": -1, "[1[": 2, `[1"`: 2, "[1 n": 3, "[/": 1,
		"{]": 1, "{,": 1, "{1": 1, "{n": 1, "{:": 1, "{{": 1, "{[": 1, "{'": 1, "{\xff": 1, `{""}`: 3, `{"",`: 3, `{"" 1`: 4, `{""=`: 3, `{""::`: 4, `{"":}`: 4, `{"":,`: 4, `{"":]`: 4, `{"":1]`: 5, `{"":1:`: 5, `{"":1 "`: 6, `{"":1,}`: 6, `{"":1,,`: 6, `{"":1,1`: 6, `{"":1,{`: 6, "{}}": 2, "{}{": 2, `{} "`: 3, `{"":{}]`: 6, `{"":[}`: 5, `[{"":1]`: 6, `{"a" "b"`: 5,
	} {
		if at < 0 {
			wantError(t, text, api.ErrEnd, len(text))
		} else {
			wantError(t, text, api.ErrSyntax, at)
			wantError(t, text+"]", api.ErrSyntax, at)
		}
	}
}

func TestP7Surrogates(t *testing.T) {
	for text, at := range map[string]int{
		`"\udc`: 4, `"\uDC`: 4, `"\udd`: 4, `"\uDe`: 4, `"\udF00`: 4, `{"\udc`: 5, `"a\udc00`: 5, `"\\\udc00`: 6, `"\ud7ff\udc00`: 10, `"\n\udfff`: 6,
		`"\ud800"`: 7, `"\ud800x`: 7, `"\udbff `: 7, "\"\\ud800\n": 7, "\"\\ud800\x00": 7, "\"\\ud800\xff": 7, "\"\\ud800\xed\xb0\x80": 7, `"\ud800/`: 7, `["\ud800,`: 8,
		`"\ud800\n`: 8, `"\ud800\"`: 8, `"\ud800\\`: 8, `"\ud800\x`: 8, `"\ud800\U`: 8, "\"\\ud800\\\xff": 8, "\"\\ud800\\\n": 8, `"\ud800\d`: 8,
		`"\ud800\u0`: 9, `"\ud800\uc`: 9, `"\ud800\uC`: 9, `"\ud800\ue`: 9, `"\ud800\uF`: 9, `"\ud800\u9`: 9,
		`"\ud800\ud0`: 10, `"\ud800\ud7`: 10, `"\ud800\ud8`: 10, `"\ud800\uDB`: 10, `"\ud800\udb`: 10, `"\ud800\uda`: 10, `"\ud800\ud9`: 10,
		`"\ud800\udc00\udc00`: 16, `"\ud800\udc00\ud800"`: 19, `"\ud800\udc00\ud800\ud8`: 22,
	} {
		wantError(t, text, api.ErrSurrogate, at)
		wantError(t, text+`"`, api.ErrSurrogate, at)
	}
	for text, at := range map[string]int{`"\ud800\ux`: 9, `"\ud800\u"`: 9, `"\ud800\u\`: 9, "\"\\ud800\\u\xff": 9, `"\ud800\uu`: 9, `"\ud800\udg`: 10, `"\ud800\ud"`: 10, `"\ud800\udcx`: 11, `"\ud800\udc"`: 11, `"\ud800\udc0g`: 12, "\"\\ud800\\udc0\n": 12} {
		wantError(t, text, api.ErrSyntax, at)
	}
}

func TestP7Bytes(t *testing.T) {
	for text, at := range map[string]int{
		"\"\x80": 1, "\"\xbf": 1, "\"\xc0": 1, "\"\xc1": 1, "\"\xf5": 1, "\"\xf8": 1, "\"\xfe": 1, "\"\xff": 1, "\"a\x80": 2, "\"é\xa9": 3, "{\"\x80": 2, "[\"\xff": 2, "\"\\n\xff": 3, "\"\\u0041\x80": 7,
		"\"\xc2\"": 2, "\"\xc2\x7f": 2, "\"\xc2\xc0": 2, "\"\xdf\\": 2, "\"\xc3\n": 2, "\"\xc3\xff": 2, "\"\xc3 ": 2,
		"\"\xe0\x80": 2, "\"\xe0\x9f": 2, "\"\xe0\xc0": 2, "\"\xe1\x7f": 2, "\"\xe1\xc0": 2, "\"\xed\xa0": 2, "\"\xed\xbf": 2, "\"\xef\"": 2, "\"\xe2\x82\"": 3, "\"\xe2\x82\x7f": 3, "\"\xe2\x82\xc0": 3, "\"\xe0\xa0\x7f": 3, "\"\xed\x9f\xc0": 3,
		"\"\xf0\x80": 2, "\"\xf0\x8f": 2, "\"\xf0\xc0": 2, "\"\xf1\x7f": 2, "\"\xf4\x90": 2, "\"\xf4\xbf": 2, "\"\xf0\x90\x7f": 3, "\"\xf4\x8f\xc0": 3, "\"\xf0\x9d\x84\"": 4, "\"\xf0\x9d\x84\xc0": 4, "\"\xf0\x9d\x84\n": 4,
	} {
		wantError(t, text, api.ErrText, at)
		wantError(t, text+`"`, api.ErrText, at)
	}
}

// TestP7Range: a token out of range is wrong at the byte that ends it; in an exponent that is not below 0, at the
// byte behind which it cannot come back.
func TestP7Range(t *testing.T) {
	below := bound[:308] + "1"
	for text, at := range map[string]int{
		"1e309": 4, "1e3080": 5, "1E+309": 5, "-1e309": 5, "1e999": 4, "1e0309": 5, "1e+000309": 8, "10e308": 5, "0.1e310": 6, "0.00001e314": 10, "1.8e308": 6, "1.7976931348623159e308": 21, "0.0001e999": 9, "1e31x": -1,
		nines + " ": 400, nines + "]": 400, nines + "[": 400, nines + "x": 400, nines + ",": 400, nines + "-": 400, nines + "+": 400, nines + "\xff": 400, nines + `"`: 400, nines + ".5 ": 402, nines + ".5.": 402,
		nines + "e+": 401, nines + "E+": 401, nines + "e0": 401, nines + "e5": 401, nines + ".0e+": 403, nines + "e-1 ": 403, nines + "e-1e": 403, nines + "e-01.": 404, nines + "e-91,": 404,
		bound + " ": 309, bound + "e0": 310, bound + "e+": 310, "-" + bound + "e00": 311, bound + "0e-1 ": 313, bound + ".0]": 311, below + "e1": 310, below + ".9e01": 313, "0." + bound + "e309": 314, "0." + bound + "e3": -1,
	} {
		switch {
		case at >= 0:
			wantError(t, text, api.ErrRange, at)
			wantError(t, "["+text, api.ErrRange, at+1)
			wantError(t, `{"":`+text, api.ErrRange, at+4)
		case text == "1e31x":
			wantError(t, text, api.ErrSyntax, 4)
		default:
			wantError(t, "["+text, api.ErrEnd, len(text)+1)
		}
	}
	// Behind these there is a way back, or none is needed.
	for _, text := range []string{nines, nines + ".", nines + ".5", nines + "e", nines + "e-", nines + "e-0", nines + "e-91", bound, bound + "e", "1e308", "1e30", "0e999999", "0.0e+99999999999999999999", below + "e0", below + ".9e+000", "1e-99999999999999999999", "0.00001e313"} {
		wantError(t, "["+text, api.ErrEnd, len(text)+1)
	}
	for text, at := range map[string]int{nines + ".x": 401, nines + ". ": 401, nines + "ex": 401, nines + "e ": 401, nines + "e-x": 402, nines + "e-]": 402, nines + "ee": 401} {
		wantError(t, text, api.ErrSyntax, at)
	}
	wantValue(t, nines+"e-400", one)
	wantValue(t, "[1"+strings.Repeat("0", 400)+"e-400]", arr(1), one)
	wantValue(t, below, num(0x7fefffffffffffff))
	wantValue(t, "[-"+below+".9e-0]", arr(1), num(0xffefffffffffffff))
	wantValue(t, bound+"0e-2", num(0x7fb9999999999999))
	wantValue(t, "0e999", zero)
}

// TestP7RangeAtEnd: where only the token at the end is wrong, it is out of range; where more lacks, that is it.
func TestP7RangeAtEnd(t *testing.T) {
	for _, token := range []string{nines, "-" + nines, bound, nines + ".5", nines + "e-1", nines + "E-0", bound + "0e-1"} {
		wantError(t, token, api.ErrRange, len(token))
		wantError(t, " \n"+token, api.ErrRange, len(token)+2)
		wantError(t, "["+token, api.ErrEnd, len(token)+1)
		wantError(t, "[1,"+token, api.ErrEnd, len(token)+3)
		wantError(t, `{"":`+token, api.ErrEnd, len(token)+4)
	}
	for _, token := range []string{nines + ".", nines + "e", nines + "e-", "-"} {
		wantError(t, token, api.ErrEnd, len(token))
	}
}

func TestP7End(t *testing.T) {
	for _, text := range []string{
		"", " ", "\n\t\r ", "n", "nul", "tru", "fals", "-", "1.", "-0.", "1e", "1e+", "1e-", "0E", "[", "[ ", "[1", "[1 ", "[1,", "[[]", "[[],", "{", `{"`, `{"a`, `{"a"`, `{"a" `, `{"a":`, `{"a":1`, `{"a":1 `, `{"a":1,`, `{"a":{}`, "[{}", "[null", `[""`, `{"a":[]`,
		`"`, `"a`, `"\`, `"\u`, `"\u0`, `"\u00`, `"\u004`, `"\u0041`, `"\ud`, `"\ud8`, `"\ud800`, `"\ud800\`, `"\ud800\u`, `"\ud800\ud`, `"\ud800\udc`, `"\ud800\udc0`, `"\ud800\udc00`, `"\"`, "\"\xc3", "\"\xe2", "\"\xe2\x82", "\"\xf0", "\"\xf0\x9d", "\"\xf0\x9d\x84",
	} {
		wantError(t, text, api.ErrEnd, len(text))
	}
}
