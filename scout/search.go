package scout

import (
	"slices"
	"strconv"
	"strings"

	"scout/search"
	"scout/segment"
	"scout/tokens"
)

const maxTerms = 6 // different tokens of a question

// Search finds the best documents (P7).
func (e *Engine) Search(way int, words string, k int) (string, int, Errno) {
	if way < search.Through || way > search.OverBlocks {
		return "", 0, ErrArg
	}
	if len(words) > maxText {
		return "", 0, ErrLong
	}
	terms := termsOf(words)
	if len(terms) > maxTerms {
		return "", 0, ErrTerms
	}
	parts, err := e.parts()
	if err != nil {
		return "", 0, errnoOf(err) // Not to be: the engine wrote these bytes itself.
	}
	hits, rated := search.Best(parts, e.isLive, search.Question{Way: way, Tokens: terms, Most: k})
	return hitList(hits), rated, OK
}

// termsOf tells the different tokens of a text.
func termsOf(words string) []string {
	terms := tokens.Split(words)
	slices.Sort(terms)
	return slices.Compact(terms)
}

// parts tells what is searched: the buffer and each segment.
func (e *Engine) parts() ([]search.Part, error) {
	parts := []search.Part{{Documents: e.buffer.documents, List: e.buffer.list}}
	for _, text := range e.segments {
		content, err := segment.Read(text)
		if err != nil {
			return nil, err
		}
		parts = append(parts, search.Part{Documents: content.Documents, List: content.List})
	}
	return parts, nil
}

func hitList(hits []search.Hit) string {
	var out []string
	for _, hit := range hits {
		out = append(out, hit.Key+"="+strconv.Itoa(hit.Worth))
	}
	return strings.Join(out, ",")
}
