package search

import (
	"scout/document"
	"scout/worth"
)

// rater knows of all parts what the worth of a document in one of them hangs on.
type rater struct {
	isLive func(document.Document) bool
	whole  worth.Whole
	terms  []term
}

// term is a token that is asked for.
type term struct {
	token  string
	weight int
}

func raterFor(parts []Part, isLive func(document.Document) bool, tokens []string) *rater {
	r := &rater{isLive: isLive}
	for _, part := range parts {
		for _, d := range part.Documents {
			if isLive(d) {
				r.whole.Documents++
				r.whole.Length += d.Length
			}
		}
	}
	for _, token := range tokens {
		having := 0
		for _, part := range parts {
			having += r.countLive(part, token)
		}
		r.terms = append(r.terms, term{token: token, weight: r.whole.Weight(having)})
	}
	return r
}

// countLive tells how many live documents of a part have a token.
func (r *rater) countLive(part Part, token string) int {
	live := 0
	for _, p := range part.List(token).Places {
		if r.isLive(part.Documents[p.Ordinal]) {
			live++
		}
	}
	return live
}
