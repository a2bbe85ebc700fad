package search

import (
	"cmp"
	"slices"
)

// walk goes through those documents of a part that have one of the terms, in
// their order. It knows the best that it has found itself, not those of other
// parts: else what is rated would hang on how the goroutines run.
type walk struct {
	*rater
	part    Part
	asked   Question
	cursors []*cursor // none has ended; by rising ordinal
	hits    []Hit     // best first
	rated   int
}

func newWalk(r *rater, part Part, q Question) *walk {
	w := &walk{rater: r, part: part, asked: q}
	for _, t := range r.terms {
		w.cursors = append(w.cursors, newCursor(part.List(t.token), t.weight, r.whole))
	}
	w.moveTo(0)
	return w
}

// send sends the hits, best first, closes the stream, and tells how many
// documents were rated.
func (w *walk) send(stream chan<- Hit) (rated int) {
	defer close(stream)
	w.rateAll()
	for _, hit := range w.hits {
		stream <- hit
	}
	return w.rated
}

// rateAll rates each document that may be among the best.
func (w *walk) rateAll() {
	for ordinal, found := w.next(); found; ordinal, found = w.next() {
		w.rate(ordinal)
		w.moveTo(ordinal + 1)
	}
}

// next moves on to the next document that may be among the best, live or not.
func (w *walk) next() (ordinal int, found bool) {
	for {
		ordinal, found = w.firstStrong()
		if !found {
			return 0, false
		}
		if w.cursors[0].ordinal() < ordinal {
			w.moveTo(ordinal)
			continue
		}
		bound, behind := w.blocksAt(ordinal)
		if w.asked.Way != OverBlocks || bound >= w.floor() {
			return ordinal, true
		}
		w.moveTo(behind)
	}
}

// firstStrong tells the first ordinal up to which the terms that are met reach the
// floor together, each at its greatest worth. Whatever lies ahead of it has
// only terms that do not.
func (w *walk) firstStrong() (ordinal int, found bool) {
	sum := 0
	for _, c := range w.cursors {
		sum += c.bound
		if sum >= w.floor() {
			return c.ordinal(), true
		}
	}
	return 0, false
}

// blocksAt bounds what the document that the first cursors stand at is worth, by
// the blocks that it lies in, and tells the ordinal up to which this bounds the
// others behind it too: where a block ends or a further term begins.
func (w *walk) blocksAt(ordinal int) (bound, behind int) {
	behind = len(w.part.Documents)
	for _, c := range w.cursors {
		if c.ordinal() > ordinal {
			return bound, min(behind, c.ordinal())
		}
		bound += c.blockBound()
		behind = min(behind, c.behindBlock())
	}
	return bound, behind
}

// floor tells what a document must be worth to come among the best found so far.
func (w *walk) floor() int {
	if w.asked.Way == Through || len(w.hits) < w.asked.Most {
		return 0
	}
	return w.hits[w.asked.Most-1].Worth
}

// moveTo moves all cursors on to this ordinal, or to the next that they have.
func (w *walk) moveTo(ordinal int) {
	for _, c := range w.cursors {
		c.seek(ordinal)
	}
	w.cursors = slices.DeleteFunc(w.cursors, func(c *cursor) bool { return c.hasEnded() })
	slices.SortFunc(w.cursors, compareCursors)
}

// rate reckons the whole worth of a document that the first cursors stand at,
// if it is live.
func (w *walk) rate(ordinal int) {
	d := w.part.Documents[ordinal]
	if !w.isLive(d) {
		return
	}
	w.rated++
	hit := Hit{Number: d.Number, Key: d.Key}
	for _, c := range w.cursors {
		if c.ordinal() == ordinal {
			hit.Worth += w.whole.Worth(c.weight, c.count(), d.Length)
		}
	}
	if hit.Worth > 0 {
		w.keep(hit)
	}
}

func (w *walk) keep(hit Hit) {
	at, _ := slices.BinarySearchFunc(w.hits, hit, compareHits)
	w.hits = slices.Insert(w.hits, at, hit)
}

// compareHits puts the better of two hits first.
func compareHits(a, b Hit) int {
	return cmp.Or(cmp.Compare(b.Worth, a.Worth), cmp.Compare(a.Number, b.Number))
}
