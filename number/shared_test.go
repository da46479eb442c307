package number

import (
	"math/rand"
	"sync"
	"testing"

	"decant/api"
)

// TestP2NothingInCommon: calls at the same time, in whatever order, do not come into each other's way.
func TestP2NothingInCommon(t *testing.T) {
	r := rand.New(rand.NewSource(9))
	var numbers []uint64
	var tokens []string
	for range 500 {
		n := drawn(r)
		token, _ := Print(n)
		numbers, tokens = append(numbers, n), append(tokens, token)
	}
	var all sync.WaitGroup
	for worker := range 8 {
		all.Go(func() {
			for i := range numbers {
				at := (i*7 + worker*61) % len(numbers)
				token, e := Print(numbers[at])
				bits, f := Parse(tokens[at])
				if token != tokens[at] || e != api.OK || bits != numbers[at] || f != api.OK {
					t.Errorf("%x and %q: got %q, %d and %x, %d", numbers[at], tokens[at], token, e, bits, f)
				}
			}
		})
	}
	all.Wait()
}
