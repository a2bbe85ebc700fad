// Package search finds the best documents for some tokens. Each part is searched
// by a goroutine of its own.
package search

import (
	"sync"

	"scout/document"
	"scout/segment"
)

// The ways to search, by their numbers in P7. All find the same.
const (
	Through    = iota // rates each live document that has one of the tokens
	OverWeak          // leaves out documents whose tokens are too weak together
	OverBlocks        // also steps over blocks whose heads tell of nothing better
)

// Part is the buffer or a segment: documents by rising number, and of each token
// where it stands among them. All parts are read side by side, and none is
// changed.
type Part struct {
	Documents []document.Document // live or not
	List      func(token string) segment.List
}

// Question asks for the best documents.
type Question struct {
	Way    int
	Tokens []string // different ones
	Most   int      // hits that are wanted
}

// Hit is a document that was found.
type Hit struct {
	Number int
	Key    string
	Worth  int
}

// Best tells the first hits of all parts together, best first, and how many
// documents were rated.
func Best(parts []Part, isLive func(document.Document) bool, q Question) (best []Hit, rated int) {
	if q.Most <= 0 {
		return nil, 0
	}
	r := raterFor(parts, isLive, q.Tokens)
	ratedIn := make([]int, len(parts))
	streams := make([]<-chan Hit, len(parts))
	var searching sync.WaitGroup
	for i, part := range parts {
		// Room for all: whoever sends can end though nobody takes.
		hits := make(chan Hit, len(part.Documents))
		streams[i] = hits
		searching.Go(func() { ratedIn[i] = newWalk(r, part, q).send(hits) })
	}
	best = takeBest(streams, q.Most)
	searching.Wait()
	for _, n := range ratedIn {
		rated += n
	}
	return best, rated
}
