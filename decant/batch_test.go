package decant

import (
	"math/rand"
	"runtime"
	"slices"
	"strconv"
	"strings"
	"sync"
	"testing"
	"unsafe"

	"decant/api"
)

// mixed are texts of each kind among each other: right ones, and one for each error.
var mixed = []string{
	`{"b":[1.0,2e0],"a":"\u0041"}`, "[1,]", "[1", `"\ud800x"`, " [ 1 , 2 ] ", "[1e400]", "[[[0]]]", "\"\xff", "nul", "-0.0", `{"b":1,"a":2,"b":3,"a":4}`, "", "nuL", "\ttrue\n", nines, `"\udc00"`, `{"z":{"y":1,"x":2},"w":[]}`, "{} {}",
}

// batching is Batch's answer; the list that was handed in, and what stands behind it, must be as it was.
func batching(t *testing.T, texts []string, depth, indent int, sorted bool) []api.Result {
	t.Helper()
	given := append(slices.Clone(texts), "spare", "spare")
	results := Batch(given[:len(texts)], depth, indent, sorted)
	if !slices.Equal(given[:len(texts)], texts) || given[len(texts)] != "spare" || given[len(texts)+1] != "spare" {
		t.Fatalf("Batch has written into %.200q", texts)
	}
	return results
}

// single is what Format says of each text, as one chunk, in their order.
func single(texts []string, depth, indent int, sorted bool) []api.Result {
	var results []api.Result
	for _, text := range texts {
		results = append(results, Format([]string{text}, depth, indent, sorted))
	}
	return results
}

func wantResults(t *testing.T, texts []string, got, want []api.Result) {
	t.Helper()
	if len(got) != len(want) {
		t.Fatalf("%d results of %d texts", len(got), len(want))
	}
	for i := range want {
		if got[i] != want[i] {
			t.Fatalf("of text %d of %d, %.80q, came %.200v, want %.200v", i, len(texts), texts[i], got[i], want[i])
		}
	}
}

// wantBatch asks Batch for what Format says.
func wantBatch(t *testing.T, texts []string, depth, indent int, sorted bool) {
	t.Helper()
	wantResults(t, texts, batching(t, texts, depth, indent, sorted), single(texts, depth, indent, sorted))
}

// TestP10ByHand has what is to come of mixed by hand, close together.
func TestP10ByHand(t *testing.T) {
	want := []api.Result{
		{Text: `{"a":"A","b":[1,2]}`, At: 28}, {E: api.ErrSyntax, At: 3}, {E: api.ErrEnd, At: 2}, {E: api.ErrSurrogate, At: 7}, {Text: "[1,2]", At: 11}, {E: api.ErrRange, At: 5}, {E: api.ErrDepth, At: 2}, {E: api.ErrText, At: 1}, {E: api.ErrEnd, At: 3}, {Text: "-0", At: 4}, {Text: `{"a":2,"a":4,"b":1,"b":3}`, At: 25}, {E: api.ErrEnd}, {E: api.ErrSyntax, At: 2}, {Text: "true", At: 6}, {E: api.ErrRange, At: 400}, {E: api.ErrSurrogate, At: 4}, {Text: `{"w":[],"z":{"x":2,"y":1}}`, At: 26}, {E: api.ErrSyntax, At: 3},
	}
	wantResults(t, mixed, batching(t, mixed, 2, -1, true), want)
	want[0].Text = `{"b":[1,2],"a":"A"}`
	want[10].Text = `{"b":1,"a":2,"b":3,"a":4}`
	want[16].Text = `{"z":{"y":1,"x":2},"w":[]}`
	wantResults(t, mixed, batching(t, mixed, 2, -1, false), want)
	want[6] = api.Result{Text: "[[[0]]]", At: 7}
	wantResults(t, mixed, batching(t, mixed, 3, -1, false), want)
}

func TestP10NoText(t *testing.T) {
	for _, texts := range [][]string{nil, {}, mixed[:0]} {
		for _, depth := range []int{0, 1, 1000, 1001} {
			for _, indent := range []int{-2, -1, 16, 17} {
				if got := batching(t, texts, depth, indent, true); len(got) != 0 {
					t.Errorf("of no text came %v", got)
				}
			}
		}
	}
}

func TestP10OneText(t *testing.T) {
	for _, text := range slices.Concat(mixed, some, beginnings) {
		wantBatch(t, []string{text}, 2, -1, true)
		wantBatch(t, []string{text}, 2, 3, false)
	}
}

// TestP10HowMany: lists of every length up to some hundreds, from every place on.
func TestP10HowMany(t *testing.T) {
	for n := range 300 {
		var texts []string
		for i := range n {
			texts = append(texts, mixed[(i+n)%len(mixed)]+strings.Repeat(" ", i))
		}
		wantBatch(t, texts, 1+n%3, n%18-1, n%2 == 0)
	}
}

// TestP10Many: each of very many texts has an answer of its own, so that none can stand for another.
func TestP10Many(t *testing.T) {
	var texts []string
	for i := range 50000 {
		text := `{"i":` + strconv.Itoa(i) + `,"a":[]}`
		if i%3 == 1 {
			text = strings.Repeat(" ", i%977) + strconv.Itoa(i) + "x"
		}
		texts = append(texts, text)
	}
	for i, result := range batching(t, texts, 2, -1, true) {
		want := api.Result{Text: `{"a":[],"i":` + strconv.Itoa(i) + "}", At: len(texts[i])}
		if i%3 == 1 {
			want = api.Result{E: api.ErrSyntax, At: len(texts[i]) - 1}
		}
		if result != want {
			t.Fatalf("text %d: %+v, want %+v", i, result, want)
		}
	}
}

func TestP10SameText(t *testing.T) {
	for _, text := range mixed {
		for _, n := range []int{2, 7, 8, 9, 100, 1000} {
			wantBatch(t, slices.Repeat([]string{text}, n), 2, -1, true)
		}
	}
}

// lengths are texts of very different lengths: one of them takes longer than all others together.
func lengths(n, at int) []string {
	texts := make([]string, n)
	for i := range texts {
		texts[i] = "[" + strings.Repeat("0, ", i) + strconv.Itoa(i) + "]"
	}
	texts[at] = "[" + strings.Repeat(`{"b":0.1,"a":"é"},`, 5000) + strconv.Itoa(at) + "]"
	return texts
}

// TestP10Lengths: the longest stands first, in the midst, last; also with a fault at its end.
func TestP10Lengths(t *testing.T) {
	for _, n := range []int{1, 2, 3, 9, 40} {
		for at := range n {
			texts := lengths(n, at)
			wantBatch(t, texts, 2, -1, true)
			texts[at] += "]"
			wantBatch(t, texts, 2, -1, true)
		}
	}
	// Falling lengths: whoever begins first ends last.
	var falling []string
	for i := range 60 {
		falling = append(falling, "["+strings.Repeat("1,", 3000/(i*i+1))+strconv.Itoa(i)+"]")
	}
	wantBatch(t, falling, 1, 0, false)
	slices.Reverse(falling)
	wantBatch(t, falling, 1, 0, false)
}

// TestP10WhoeverWasFaster: however many may run at the same time, the answers are the same.
func TestP10WhoeverWasFaster(t *testing.T) {
	defer runtime.GOMAXPROCS(runtime.GOMAXPROCS(0))
	texts := slices.Concat(lengths(30, 0), mixed, lengths(20, 19), some)
	want := single(texts, 3, 2, true)
	for _, processors := range []int{1, 2, 3, 5, 8, 16, 64} {
		runtime.GOMAXPROCS(processors)
		for range 5 {
			wantResults(t, texts, batching(t, texts, 3, 2, true), want)
		}
	}
}

// TestP10Arguments: with a depth or an indent that may not be, each text has ErrArg, without a place.
func TestP10Arguments(t *testing.T) {
	want := func(depth, indent int) {
		t.Helper()
		for n := range len(mixed) + 1 {
			wantResults(t, mixed[:n], batching(t, mixed[:n], depth, indent, n%2 == 0), slices.Repeat([]api.Result{{E: api.ErrArg}}, n))
		}
	}
	for _, depth := range []int{0, -1, 1001, -1000, 1 << 32, 1<<32 + 1, -1 << 63, 1<<63 - 1} {
		for indent := -3; indent <= 18; indent++ {
			want(depth, indent)
		}
	}
	for _, indent := range []int{-2, -3, 17, 18, -17, 1 << 32, 1<<32 - 1, -1 << 63, 1<<63 - 1} {
		for _, depth := range []int{0, 1, 2, 999, 1000, 1001} {
			want(depth, indent)
		}
	}
}

// TestP10Depths: the depth holds for each text, up to the greatest.
func TestP10Depths(t *testing.T) {
	var texts []string
	for _, deep := range []int{1, 2, 998, 999, 1000, 1001, 3, 1000} {
		texts = append(texts, strings.Repeat("[", deep)+strings.Repeat("]", deep), strings.Repeat(`{"b":0,"a":`, deep)+"1"+strings.Repeat("}", deep))
	}
	for _, depth := range []int{1, 2, 3, 998, 999, 1000} {
		wantBatch(t, texts, depth, -1, true)
	}
	right := 0
	for _, result := range Batch(texts, 1000, -1, false) {
		if result.E == api.OK {
			right++
		}
	}
	if right != len(texts)-2 {
		t.Errorf("%d of %d texts are right", right, len(texts))
	}
}

func TestP10EveryIndent(t *testing.T) {
	texts := slices.Concat(mixed, some)
	eachIndent(func(indent int, sorted bool) {
		for depth := 1; depth <= 5; depth++ {
			var want []api.Result
			for _, text := range texts {
				want = append(want, formatted(t, text, depth, indent, sorted))
			}
			wantResults(t, texts, batching(t, texts, depth, indent, sorted), want)
		}
	})
}

// drawnTexts are texts, right and spoilt ones among each other, some of them twice.
func drawnTexts(r *rand.Rand, n int) []string {
	var texts []string
	for len(texts) < n {
		text := drawnText(r, 4)
		for range r.Intn(3) {
			text = spoilt(r, text)
		}
		if len(texts) > 0 && r.Intn(5) == 0 {
			text = texts[r.Intn(len(texts))]
		}
		texts = append(texts, text)
	}
	return texts
}

// TestP10Drawn holds what comes of drawn lists against the document's words, and against Format.
func TestP10Drawn(t *testing.T) {
	t.Parallel()
	r := rand.New(rand.NewSource(14))
	right, all := 0, 0
	for range 300 {
		texts := drawnTexts(r, r.Intn(30))
		depth, indent, sorted := 1+r.Intn(5), r.Intn(18)-1, r.Intn(2) == 0
		var want []api.Result
		for _, text := range texts {
			result := formatted(t, text, depth, indent, sorted)
			want = append(want, result)
			all++
			if result.E == api.OK {
				right++
			}
		}
		wantResults(t, texts, batching(t, texts, depth, indent, sorted), want)
		wantBatch(t, texts, depth, indent, sorted)
	}
	if right < all/5 || right > all*4/5 {
		t.Fatalf("%d of %d texts are right ones: too few of one kind", right, all)
	}
}

// TestP10AtTheSameTime: several calls at once, of one list and of others, do not come into each other's way.
func TestP10AtTheSameTime(t *testing.T) {
	var all sync.WaitGroup
	shared := slices.Concat(mixed, lengths(20, 3))
	for i := range 40 {
		texts, depth, indent, sorted := shared, 1+i%4, i%18-1, i%3 == 0
		if i%2 == 0 {
			texts = slices.Repeat(some[i%len(some):], 1+i%5)
		}
		want := single(texts, depth, indent, sorted)
		all.Go(func() {
			for range 3 {
				if got := Batch(texts, depth, indent, sorted); !slices.Equal(got, want) {
					t.Errorf("call %d: %.200v, want %.200v", i, got, want)
				}
			}
		})
	}
	all.Wait()
}

// TestP10Twice: the same call has the same answer again, whatever the caller did with the first, its spare room too.
func TestP10Twice(t *testing.T) {
	texts := slices.Concat(mixed, some, mixed)
	for _, indent := range []int{-1, 2, -2} {
		first := batching(t, texts, 3, indent, true)
		want := slices.Clone(first)
		second := batching(t, texts, 3, indent, true)
		wantResults(t, texts, second, want)
		for i := range first[:cap(first)] {
			first[:cap(first)][i] = api.Result{Text: "spoilt", E: 99, At: -1}
		}
		_ = append(first, api.Result{Text: "spoilt"})
		wantResults(t, texts, second, want)
		wantResults(t, texts, batching(t, texts, 3, indent, true), want)
		wantResults(t, texts, batching(t, texts, 3, -1, false), single(texts, 3, -1, false))
	}
}

// TestP2BatchIsNewMemory: what a caller does with the memory of its texts later changes no answer.
func TestP2BatchIsNewMemory(t *testing.T) {
	right := slices.Concat(mixed, []string{`"a"`, `"text"`, `["aé€𝄞"]`, `"` + strings.Repeat("x", 1000) + `"`})
	want := single(right, 2, -1, true)
	var texts []string
	var rooms [][]byte
	for _, text := range right {
		room := append([]byte(text), '#')
		texts = append(texts, unsafe.String(&room[0], len(text)))
		rooms = append(rooms, room)
	}
	got := Batch(texts, 2, -1, true)
	for _, room := range rooms {
		clear(room)
	}
	clear(texts)
	wantResults(t, right, got, want)
}

// batchWorkers is how many other goroutines work at texts. One whose work is done, and that is only to be gone, is
// none.
func batchWorkers() int {
	room := make([]byte, 1<<20)
	stacks := strings.Split(string(room[:runtime.Stack(room, true)]), "\n\n")
	working := 0
	for _, stack := range stacks[1:] { // the first is the one that asks
		if strings.Contains(stack, "decant.Batch.func") || strings.Contains(stack, "decant.Format(") {
			working++
		}
	}
	return working
}

// TestP10BySeveral: long texts are worked at by several goroutines at the same time.
func TestP10BySeveral(t *testing.T) {
	texts := slices.Repeat([]string{"[" + strings.Repeat(`{"b":0.1,"a":"é"},`, 20000) + "0]"}, 8)
	most := 0
	for range 20 {
		ended := make(chan struct{})
		go func() {
			defer close(ended)
			Batch(texts, 2, -1, true)
		}()
		for running := true; running; {
			most = max(most, batchWorkers())
			select {
			case <-ended:
				running = false
			default:
				runtime.Gosched()
			}
		}
		if most > 1 {
			return
		}
	}
	t.Errorf("no more than %d goroutines were seen at work", most)
}

// TestP1NoGoroutineIsLeft: when Batch answers none works any more, and all are gone as soon as they have run out.
func TestP1NoGoroutineIsLeft(t *testing.T) {
	ahead := runtime.NumGoroutine()
	lists := [][]string{nil, {"1"}, {"[1,]"}, mixed, lengths(9, 0), lengths(40, 39), slices.Repeat([]string{"x"}, 1000)}
	for i := range 20 {
		for _, texts := range lists {
			Batch(texts, i%4, i%7-2, true) // some with a depth or an indent that may not be
			if working := batchWorkers(); working > 0 {
				t.Fatalf("%d goroutines still work at %d texts", working, len(texts))
			}
		}
	}
	// One that has told that it is done may need a moment to be gone.
	for range 100000 {
		if runtime.NumGoroutine() <= ahead {
			return
		}
		runtime.Gosched()
	}
	t.Errorf("%d goroutines, ahead of it %d", runtime.NumGoroutine(), ahead)
}

// TestP1BatchEnds: very many texts, and very long ones, are worked in a time that grows with them alone.
func TestP1BatchEnds(t *testing.T) {
	const size = 300000
	for i, result := range Batch(make([]string, size), 1, -1, false) {
		if result != (api.Result{E: api.ErrEnd}) {
			t.Fatalf("text %d: %+v", i, result)
		}
	}
	noughts := strings.Repeat("0", size)
	texts := []string{"1" + noughts + "e-300000", "0." + noughts + "1e300001", "1e" + noughts, `"` + noughts + `"`, "[" + strings.Repeat("[],", size/3) + "{}]", strings.Repeat(" ", size) + "1", "1e309" + noughts, noughts}
	want := []api.Result{{Text: "1", At: size + 9}, {Text: "1", At: size + 10}, {Text: "1", At: size + 2}, {Text: `"` + noughts + `"`, At: size + 2}, {Text: "[" + strings.Repeat("[],", size/3) + "{}]", At: size + 4}, {Text: "1", At: size + 1}, {E: api.ErrRange, At: 4}, {E: api.ErrSyntax, At: 1}}
	wantResults(t, texts, batching(t, texts, 2, -1, true), want)
}

// TestP1BatchAnyBytes: whatever texts come there is an answer to each, and beside an error no text.
func TestP1BatchAnyBytes(t *testing.T) {
	r := rand.New(rand.NewSource(15))
	for range 500 {
		texts := make([]string, r.Intn(25))
		for i := range texts {
			text := make([]byte, r.Intn(12))
			for k := range text {
				text[k] = byte(r.Intn(256))
			}
			texts[i] = string(text)
		}
		depth, indent := r.Intn(1003)-1, r.Intn(22)-3
		for i, result := range batching(t, texts, depth, indent, r.Intn(2) == 0) {
			if result.E != api.OK && result.Text != "" || result.E == api.ErrArg && result.At != 0 || result.At < 0 || result.At > len(texts[i]) {
				t.Fatalf("%q: %+v", texts[i], result)
			}
		}
	}
}
