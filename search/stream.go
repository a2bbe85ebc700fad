package search

import "slices"

// stream is what is left of a part's hits: the one that stands first, and those
// behind it.
type stream struct {
	first Hit
	rest  <-chan Hit
}

// takeBest takes the best of the hits that stand first, until there are k of
// them, and leaves the rest.
func takeBest(sources []<-chan Hit, k int) []Hit {
	var best []Hit
	streams := begin(sources)
	for len(best) < k && len(streams) > 0 {
		at := foremost(streams)
		best = append(best, streams[at].first)
		streams = advance(streams, at)
	}
	return best
}

// begin tells the streams that have a hit.
func begin(sources []<-chan Hit) []stream {
	var streams []stream
	for _, source := range sources {
		if first, found := <-source; found {
			streams = append(streams, stream{first: first, rest: source})
		}
	}
	return streams
}

// foremost tells which stream's first hit is the best.
func foremost(streams []stream) int {
	at := 0
	for i, s := range streams {
		if compareHits(s.first, streams[at].first) < 0 {
			at = i
		}
	}
	return at
}

// advance steps over the first hit of a stream. A stream at its end is left out.
func advance(streams []stream, at int) []stream {
	next, found := <-streams[at].rest
	if !found {
		return slices.Delete(streams, at, at+1)
	}
	streams[at].first = next
	return streams
}
