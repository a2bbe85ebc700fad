package search

import (
	"cmp"
	"slices"

	"scout/document"
	"scout/worth"
)

// rater knows of all parts what the worth of a document in one of them hangs on.
type rater struct {
	isLive func(document.Document) bool
	whole  worth.Whole
	terms  []term
}

// term is a token that is asked for.
type term struct {
	token  string
	weight int
}

func raterFor(parts []Part, tokens []string, isLive func(document.Document) bool) *rater {
	r := &rater{isLive: isLive}
	for _, part := range parts {
		for _, d := range part.Documents {
			if isLive(d) {
				r.whole.Documents++
				r.whole.Length += d.Length
			}
		}
	}
	for _, token := range tokens {
		having := 0
		for _, part := range parts {
			having += r.countLive(part, token)
		}
		r.terms = append(r.terms, term{token: token, weight: r.whole.Weight(having)})
	}
	return r
}

// countLive tells how many live documents of a part have a token.
func (r *rater) countLive(part Part, token string) int {
	live := 0
	for _, p := range part.Places(token) {
		if r.isLive(part.Documents[p.Ordinal]) {
			live++
		}
	}
	return live
}

// send sends the hits of a part, best first, closes the stream, and tells how
// many documents were rated.
func (r *rater) send(part Part, stream chan<- Hit) (rated int) {
	defer close(stream)
	hits, rated := r.rate(part)
	slices.SortFunc(hits, compareHits)
	for _, hit := range hits {
		stream <- hit
	}
	return rated
}

// rate tells the hits of a part, and how many documents were rated.
func (r *rater) rate(part Part) (hits []Hit, rated int) {
	worths := map[int]int{} // by ordinal
	for _, t := range r.terms {
		for _, p := range part.Places(t.token) {
			if d := part.Documents[p.Ordinal]; r.isLive(d) {
				worths[p.Ordinal] += r.whole.Worth(t.weight, p.Count, d.Length)
			}
		}
	}
	for ordinal, d := range part.Documents {
		if worths[ordinal] > 0 {
			hits = append(hits, Hit{Number: d.Number, Key: d.Key, Worth: worths[ordinal]})
		}
	}
	return hits, len(worths)
}

// compareHits puts the better of two hits first.
func compareHits(a, b Hit) int {
	return cmp.Or(cmp.Compare(b.Worth, a.Worth), cmp.Compare(a.Number, b.Number))
}
