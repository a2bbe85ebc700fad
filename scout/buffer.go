package scout

import "slices"

// document is what is known of a document beside where its words stand.
type document struct {
	number int
	key    string
	length int
}

// place tells of a word that a document has it, and how often.
type place struct {
	number int
	count  int
}

// buffer holds live documents that are in no segment. The documents, and the
// places of each word, stand by rising number; no word is without a place.
type buffer struct {
	documents []document
	words     map[string][]place
}

func newBuffer() buffer {
	return buffer{words: map[string][]place{}}
}

// add takes a document whose number is greater than that of all before it.
func (b *buffer) add(d document, words []string) {
	b.documents = append(b.documents, d)
	for _, word := range words {
		b.words[word] = countOne(b.words[word], d.number)
	}
}

// countOne counts a word once more for the newest document. As this has the
// greatest number, its place can only be the last.
func countOne(places []place, number int) []place {
	last := len(places) - 1
	if last >= 0 && places[last].number == number {
		places[last].count++
		return places
	}
	return append(places, place{number: number, count: 1})
}

// drop takes a document out; one that is not in the buffer changes nothing.
func (b *buffer) drop(number int) {
	b.documents = slices.DeleteFunc(b.documents, func(d document) bool {
		return d.number == number
	})
	for word, places := range b.words {
		rest := slices.DeleteFunc(places, func(p place) bool {
			return p.number == number
		})
		if len(rest) == 0 {
			delete(b.words, word)
			continue
		}
		b.words[word] = rest
	}
}
