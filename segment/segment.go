// Package segment writes documents, and where their words stand, into the bytes
// of a segment, and reads them back. Each content has one way of being written
// alone, and nothing else is read.
package segment

import (
	"slices"
	"strings"

	"scout/document"
)

const (
	MaxBytes = 60000 // of a text that is read
	Block    = 4     // documents of a block, but for the last one

	mark     = "SG" // what a segment begins with
	maxWidth = 8    // bits of a packed number
)

// Content is what a segment holds: documents by rising number, and the lists of
// all their words by rising bytes.
type Content struct {
	Documents []document.Document
	Lists     []List
}

// List tells which documents have a word, by rising ordinal: one or more. They
// are cut into blocks, and each block has a head.
type List struct {
	Token  string
	Places []Place
	Heads  []Head
}

// Place tells of a word that a document has it, and how often. The ordinal is
// the document's index in the content.
type Place struct {
	Ordinal int
	Count   int
}

// Head bounds what the documents of a block can be worth.
type Head struct {
	Last     int // ordinal
	Greatest int // count
	Least    int // length
}

// ListOf cuts the places of a token into blocks.
func ListOf(token string, places []Place, documents []document.Document) List {
	list := List{Token: token, Places: places}
	for block := range slices.Chunk(places, Block) {
		list.Heads = append(list.Heads, headOf(block, documents))
	}
	return list
}

// List tells where a token stands: nowhere, if no document has it.
func (c Content) List(token string) List {
	at, found := slices.BinarySearchFunc(c.Lists, token, func(list List, token string) int {
		return strings.Compare(list.Token, token)
	})
	if !found {
		return List{}
	}
	return c.Lists[at]
}

func headOf(block []Place, documents []document.Document) Head {
	h := Head{Least: document.MaxTokens}
	for _, p := range block {
		h.Last = p.Ordinal
		h.Greatest = max(h.Greatest, p.Count)
		h.Least = min(h.Least, documents[p.Ordinal].Length)
	}
	return h
}

// block tells the places of the block with this index.
func (l List) block(i int) []Place {
	return l.Places[i*Block : min((i+1)*Block, len(l.Places))]
}

// checkOf tells the check of all bytes ahead of it.
func checkOf(text string) string {
	h := uint32(2166136261)
	for i := range len(text) {
		h = (h ^ uint32(text[i])) * 16777619
	}
	return string([]byte{byte(h), byte(h >> 8), byte(h >> 16), byte(h >> 24)})
}
