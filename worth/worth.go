// Package worth reckons what a document is worth for a token.
package worth

import "math/bits"

// Whole is all live documents taken together: against them each is weighed.
type Whole struct {
	Documents int // how many
	Length    int // how many tokens they have
}

// Weight tells the weight of a token that so many of the documents have.
func (w Whole) Weight(having int) int {
	return lg((2*w.Documents+2)*65536/(2*having+1)) - 4096
}

// Worth tells what a document of this length is worth for a token of this
// weight that it has so often. If no live document has a token there may be
// nothing to divide by; what is live no more can be asked for even then.
func (w Whole) Worth(weight, count, length int) int {
	if w.Length == 0 {
		return 0
	}
	all := count * w.Length
	return weight * (1441792 * all / (10*all + 3*w.Length + 9*length*w.Documents))
}

// lg tells about 256 times the logarithm of a number from 1 on, to the base 2,
// as a line between each two powers of 2.
func lg(x int) int {
	b := bits.Len(uint(x)) - 1
	return 256*b + (256*x)>>b - 256
}
