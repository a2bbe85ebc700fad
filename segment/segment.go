// Package segment writes documents, and where their words stand, into the bytes
// of a segment, and reads them back. Each content has one way of being written
// alone, and nothing else is read.
package segment

import (
	"slices"
	"strings"

	"scout/document"
)

const (
	MaxBytes = 60000 // of a text that is read
	Block    = 4     // documents of a block, but for the last one

	mark     = "SG" // what a segment begins with
	maxWidth = 8    // bits of a packed number
)

// Content is what a segment holds: documents by rising number, and the lists of
// all their words by rising bytes.
type Content struct {
	Documents []document.Document
	Lists     []List
}

// List tells which documents have a word, by rising ordinal: one or more.
type List struct {
	Token  string
	Places []Place
}

// Place tells of a word that a document has it, and how often. The ordinal is
// the document's index in the content.
type Place struct {
	Ordinal int
	Count   int
}

// Places tells where a token stands: nowhere, if no document has it.
func (c Content) Places(token string) []Place {
	at, found := slices.BinarySearchFunc(c.Lists, token, func(list List, token string) int {
		return strings.Compare(list.Token, token)
	})
	if !found {
		return nil
	}
	return c.Lists[at].Places
}

// head is what a block tells of itself ahead of its places.
type head struct {
	last     int // ordinal
	greatest int // count
	least    int // length
}

func headOf(places []Place, documents []document.Document) head {
	h := head{least: document.MaxTokens}
	for _, p := range places {
		h.last = p.Ordinal
		h.greatest = max(h.greatest, p.Count)
		h.least = min(h.least, documents[p.Ordinal].Length)
	}
	return h
}

// nextOrdinal tells the least ordinal that may follow these places: a step is
// counted from there.
func nextOrdinal(places []Place) int {
	if len(places) == 0 {
		return 0
	}
	return places[len(places)-1].Ordinal + 1
}

// checkOf tells the check of all bytes ahead of it.
func checkOf(text string) string {
	h := uint32(2166136261)
	for i := range len(text) {
		h = (h ^ uint32(text[i])) * 16777619
	}
	return string([]byte{byte(h), byte(h >> 8), byte(h >> 16), byte(h >> 24)})
}
