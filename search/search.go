// Package search finds the best documents for some tokens. Each part is searched
// by a goroutine of its own.
package search

import (
	"sync"

	"scout/document"
	"scout/segment"
)

// Part is the buffer or a segment: documents by rising number, and of each token
// where it stands among them. All parts are read side by side, and none is
// changed.
type Part struct {
	Documents []document.Document // live or not
	Places    func(token string) []segment.Place
}

// Hit is a document that was found.
type Hit struct {
	Number int
	Key    string
	Worth  int
}

// Best tells the first k hits of all parts together, best first, and how many
// documents were rated. The tokens are different ones.
func Best(parts []Part, tokens []string, isLive func(document.Document) bool, k int) (best []Hit, rated int) {
	r := raterFor(parts, tokens, isLive)
	ratedIn := make([]int, len(parts))
	streams := make([]<-chan Hit, len(parts))
	var searching sync.WaitGroup
	for i, part := range parts {
		// Room for all: whoever sends can end though nobody takes.
		hits := make(chan Hit, len(part.Documents))
		streams[i] = hits
		searching.Go(func() { ratedIn[i] = r.send(part, hits) })
	}
	best = takeBest(streams, k)
	searching.Wait()
	for _, n := range ratedIn {
		rated += n
	}
	return best, rated
}
