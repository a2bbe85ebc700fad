package scout

import (
	"cmp"
	"maps"
	"slices"

	"scout/document"
	"scout/segment"
)

// place tells of a word that a document has it, and how often.
type place struct {
	number int
	count  int
}

// buffer holds documents that are in no segment yet. The documents, and the
// places of each word, stand by rising number; no word is without a place.
type buffer struct {
	documents []document.Document
	words     map[string][]place
}

func newBuffer() buffer {
	return buffer{words: map[string][]place{}}
}

// add takes a document whose number is greater than that of all before it.
func (b *buffer) add(d document.Document, words []string) {
	b.documents = append(b.documents, d)
	for _, word := range words {
		b.words[word] = countOne(b.words[word], d.Number)
	}
}

// countOne counts a word once more for the newest document. As this has the
// greatest number, its place can only be the last.
func countOne(places []place, number int) []place {
	last := len(places) - 1
	if last >= 0 && places[last].number == number {
		places[last].count++
		return places
	}
	return append(places, place{number: number, count: 1})
}

// drop takes a document out; one that is not in the buffer changes nothing.
func (b *buffer) drop(number int) {
	b.documents = slices.DeleteFunc(b.documents, func(d document.Document) bool {
		return d.Number == number
	})
	for word, places := range b.words {
		rest := slices.DeleteFunc(places, func(p place) bool {
			return p.number == number
		})
		if len(rest) == 0 {
			delete(b.words, word)
			continue
		}
		b.words[word] = rest
	}
}

// take takes those documents of a segment that are wanted. Their numbers are
// greater than those of all before them.
func (b *buffer) take(c segment.Content, isWanted func(document.Document) bool) {
	for _, d := range c.Documents {
		if isWanted(d) {
			b.documents = append(b.documents, d)
		}
	}
	for _, list := range c.Lists {
		for _, p := range list.Places {
			if d := c.Documents[p.Ordinal]; isWanted(d) {
				b.words[list.Token] = append(b.words[list.Token], place{number: d.Number, count: p.Count})
			}
		}
	}
}

// empty takes all documents out.
func (b *buffer) empty() {
	clear(b.documents)
	b.documents = b.documents[:0]
	clear(b.words)
}

// written tells the documents as a list of segments: one, or none if there are
// no documents.
func (b *buffer) written() []string {
	if len(b.documents) == 0 {
		return nil
	}
	return []string{segment.Write(b.content())}
}

func (b *buffer) content() segment.Content {
	c := segment.Content{Documents: b.documents}
	for _, word := range slices.Sorted(maps.Keys(b.words)) {
		c.Lists = append(c.Lists, b.list(word))
	}
	return c
}

// list tells where a word stands, by the ordinals that the documents have in the
// buffer, cut into the blocks that a segment of them would have.
func (b *buffer) list(word string) segment.List {
	var places []segment.Place
	for _, p := range b.words[word] {
		places = append(places, segment.Place{Ordinal: b.ordinal(p.number), Count: p.count})
	}
	return segment.ListOf(word, places, b.documents)
}

// ordinal tells the ordinal of a document that is in the buffer.
func (b *buffer) ordinal(number int) int {
	at, _ := slices.BinarySearchFunc(b.documents, number, func(d document.Document, number int) int {
		return cmp.Compare(d.Number, number)
	})
	return at
}
