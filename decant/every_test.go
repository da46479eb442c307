package decant

import (
	"math/rand"
	"strconv"
	"strings"
	"testing"

	"decant/api"
)

// bound is 2^1024 - 2^970, of all that is out of range the least.
const bound = "179769313486231580793728971405303415079934132710037826936173778980444968292764750946649017977587207096330286416692887910946555547851940402630657488671505820681908902000708383676273854845817711531764475730270069855571366959622842914819860834936475292719074168444365510704342711559699508093042880177904174497792"

// beginnings of texts, with which the parser stands in all its states; none is deeper than 2.
var beginnings = []string{
	"", " ", "\n\t\r ", "n", "nu", "nul", "null", "null ", "t", "tr", "tru", "true", "f", "fa", "fal", "fals", "false", "false\n",
	"-", "0", "-0", "1", "-12", "0.", "1.", "0.5", "-1.50", "1e", "0E", "1.5e", "1e+", "1e-", "1e5", "1E+05", "1e-5", "0e00", "7 ",
	"1e30", "1e31", "1.79e30", "1.8e30", "0.001e31", "-1e30", "0e999", "0.00e+9999999999999999999999", "1e-999", "1e00030",
	bound, "-" + bound, bound + ".", bound + ".0", bound + "e", bound + "e-", bound + "e-0", bound + "e-1", bound + "0e-", bound + "0e-1", bound + "0e-0",
	bound[:308], bound[:308] + "1", bound[:308] + "1.9", bound[:308] + "1e", bound[:308] + "1.9e+", bound[:308] + "1e0", bound[:308] + "e", bound[:308] + "e+", bound[:308] + "e+0",
	`"`, `"a`, `"a"`, `"a" `, "\"\x7f", "\"é", `"\`, `"\n`, `"\\`, `"\"`, `"\/`, `"\u`, `"\u0`, `"\uD`, `"\ud`, `"\uc`, `"\ue`, `"\u00`, `"\ud7`, `"\ud8`, `"\uDB`, `"\udb`, `"\u004`, `"\ud80`, `"\u0041`, `"\ud7ff`, `"\ue000`,
	`"\ud800`, `"\uDBFF`, `"\ud800\`, `"\ud800\u`, `"\ud800\ud`, `"\ud800\uD`, `"\ud800\udc`, `"\ud800\uDF`, `"\ud800\udc0`, `"\ud800\udc00`, `"\ud800\udc00\`, `"\ud800\udc00\u`, `"\ud800\udc00\ud`, `"\ud800\udc00\ud8`, `"\ud800\udc00\ud800`,
	"\"\xc2", "\"\xdf", "\"\xe0", "\"\xe1", "\"\xec", "\"\xed", "\"\xee", "\"\xef", "\"\xf0", "\"\xf1", "\"\xf3", "\"\xf4", "\"\xe0\xa0", "\"\xed\x9f", "\"\xe2\x82", "\"\xf0\x90", "\"\xf4\x8f", "\"\xf0\x9d\x84", "\"\xf4\x8f\xbf", "\"\xe2\x82\xac", "\"\xf4\x8f\xbf\xbf",
	"[", "[ ", "[[", "[[[]", "[]", "[] ", "[1", "[1 ", "[1,", "[1, ", "[1,2", "[\"a\"", "[\"a\",", "[\"a", "[\"\\ud800", "[\"\xc3", "[[]", "[[],", "[null", "[nul", "[" + bound, "[" + bound + "e-1", "[" + bound[:308] + "1e", "[1]", "[[1]]", "[[1]", "[{}", "[{},", "[{",
	"{", "{ ", "{}", "{} ", `{"`, `{"a`, `{"\ud800`, "{\"\xc3", `{"a"`, `{"a" `, `{"a":`, `{"a": `, `{"a":1`, `{"a":1 `, `{"a":"b"`, `{"a":1,`, `{"a":1, `, `{"a":1,"b`, `{"a":1,"b"`, `{"a":1,"a":`, `{"a":1}`, `{"a":[`, `{"a":[1`, `{"a":[]`, `{"a":{`, `{"a":{}`, `{"a":{}}`, `{"a":{"b`, `{"a":{"b"`, `{"a":{"b":`, `{"a":` + bound, `{"a":nul`,
}

// TestP6EveryByte lays every byte there is behind beginnings of texts: right ones are taken, wrong ones have
// their error, at their place.
func TestP6EveryByte(t *testing.T) {
	for i, ahead := range beginnings {
		t.Run(strconv.Itoa(i), func(t *testing.T) {
			t.Parallel()
			wantEveryByte(t, ahead)
		})
	}
}

func wantEveryByte(t *testing.T, ahead string) {
	t.Helper()
	for b := range 256 {
		last := string([]byte{byte(b)})
		want := expected(ahead+last, 2)
		for _, chunks := range [][]string{{ahead + last}, {ahead, last}} {
			if got := reading(t, 2, chunks...); !got.same(want) {
				t.Fatalf("%.400q: %+v, want %+v", chunks, got, want)
			}
		}
	}
}

// TestP7EveryShortText tries all texts of few bytes.
func TestP7EveryShortText(t *testing.T) {
	t.Parallel()
	for _, bytes := range []string{`[]{},:"1 `, `{}":,1`, `"\ud8Cx`, "1-0.eE+] ", "\"\xe0\xed\xf4\x80\xa0\xbf"} {
		texts := []string{""}
		for range 4 {
			var longer []string
			for _, text := range texts {
				for _, b := range []byte(bytes) {
					longer = append(longer, text+string([]byte{b}))
				}
			}
			for _, text := range longer {
				if got, want := reading(t, 1, text), expected(text, 1); !got.same(want) {
					t.Fatalf("%q: %+v, want %+v", text, got, want)
				}
			}
			texts = longer
		}
	}
}

// drawnText is some text, mostly a right one, of values that are nested up to depth deep.
func drawnText(r *rand.Rand, depth int) string {
	blanks := func() string { return []string{"", "", "", " ", "\n\t", "\r "}[r.Intn(6)] }
	if r.Intn(3) > 0 || depth == 0 {
		return blanks() + drawnScalar(r) + blanks()
	}
	var inside []string
	object := r.Intn(2) == 0
	for range r.Intn(4) {
		value := drawnText(r, depth-1)
		if object {
			value = blanks() + drawnQuoted(r) + blanks() + ":" + value
		}
		inside = append(inside, value)
	}
	all := strings.Join(inside, ",")
	if all == "" {
		all = blanks()
	}
	if object {
		return blanks() + "{" + all + "}" + blanks()
	}
	return blanks() + "[" + all + "]" + blanks()
}

func drawnScalar(r *rand.Rand) string {
	switch r.Intn(6) {
	case 0:
		return []string{"null", "true", "false"}[r.Intn(3)]
	case 1, 2:
		return drawnQuoted(r)
	}
	token := []string{"", "-"}[r.Intn(2)] + []string{"0", "1", "17", "12345678901234567890", bound, bound[:308] + "1"}[r.Intn(6)]
	if r.Intn(2) == 0 {
		token += "." + strconv.Itoa(r.Intn(1000))
	}
	if r.Intn(2) == 0 {
		token += []string{"e", "E", "e+", "e-", "E-"}[r.Intn(5)] + []string{"", "0", "00"}[r.Intn(3)] + strconv.Itoa(r.Intn(400))
	}
	return token
}

func drawnQuoted(r *rand.Rand) string {
	parts := []string{"a", "b", " ", "\x7f", "é", "€", "𝄞", "\U0010ffff", "\ud7ff", "\ue000", `\"`, `\\`, `\/`, `\b`, `\f`, `\n`, `\r`, `\t`, `\u0000`, `\u0041`, `\u00e9`, `\u20AC`, `\uD834\udd1E`, `\ud800\udc00`, `\uDBFF\uDFFF`, `\ud7ff`, `\ue000`, `\uFFFF`, `\ufffd`}
	text := `"`
	for range r.Intn(5) {
		text += parts[r.Intn(len(parts))]
	}
	return text + `"`
}

// spoilt is a text with a byte too much, too few or another.
func spoilt(r *rand.Rand, text string) string {
	at := r.Intn(len(text) + 1)
	other := `[]{},:"\u0dDcCeE+-.19 ntf` + "\n\x1f\x80\xbf\xc3\xe0\xed\xf0\xff"
	b := string([]byte{other[r.Intn(len(other))]})
	switch kind := r.Intn(4); {
	case kind == 0:
		return text[:at]
	case kind == 1 && at < len(text):
		return text[:at] + text[at+1:]
	case kind == 2 && at < len(text):
		return text[:at] + b + text[at+1:]
	}
	return text[:at] + b + text[at:]
}

// cut is a text in drawn chunks, of which some are empty.
func cut(r *rand.Rand, text string) []string {
	var chunks []string
	for text != "" {
		n := min(r.Intn(6), len(text))
		chunks = append(chunks, text[:n])
		text = text[n:]
	}
	return append(chunks, "")
}

// TestP11Drawn holds drawn texts, right and spoilt ones, in drawn chunks, against the document's words.
func TestP11Drawn(t *testing.T) {
	r := rand.New(rand.NewSource(5))
	right := 0
	for range 6000 {
		text := drawnText(r, 3)
		for range r.Intn(3) {
			text = spoilt(r, text)
		}
		depth := 1 + r.Intn(3)
		want := expected(text, depth)
		if want.e == api.OK {
			right++
		}
		for _, chunks := range [][]string{{text}, cut(r, text)} {
			if got := reading(t, depth, chunks...); !got.same(want) {
				t.Fatalf("%q to the depth %d: %+v, want %+v", chunks, depth, got, want)
			}
		}
	}
	if right < 1500 || right > 4500 {
		t.Fatalf("%d of the texts are right ones: too few of one kind", right)
	}
}

func FuzzParser(f *testing.F) {
	for _, text := range beginnings {
		f.Add(text, 1)
	}
	f.Add(`{"b":[1.0,2e0],"a":"\u0041"}`, 5)
	f.Fuzz(func(t *testing.T, text string, size int) {
		size = max(size, 1)
		want := expected(text, 3)
		if got := reading(t, 3, pieces(text, size)...); !got.same(want) {
			t.Fatalf("%q in pieces of %d: %+v, want %+v", text, size, got, want)
		}
	})
}
