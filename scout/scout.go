// Package scout: an engine that finds the best texts for a few words: see DOC.md.
package scout

import (
	"strings"

	"scout/tokens"
)

// Errno is what a call answers: OK or the reason for a refusal.
type Errno int

const (
	OK         Errno = 0
	ErrKey     Errno = 1 // no key
	ErrLong    Errno = 2 // a text above its bound
	ErrTokens  Errno = 3 // too many tokens
	ErrFull    Errno = 4 // too many documents
	ErrNone    Errno = 5 // no such document
	ErrTerms   Errno = 6 // too many different tokens
	ErrArg     Errno = 7 // no such way, no such segment
	ErrCorrupt Errno = 8 // no segment
)

const maxText = 200 // bytes of a text

// Tokens tells the tokens of a text (P3).
func Tokens(text string) (string, Errno) {
	if len(text) > maxText {
		return "", ErrLong
	}
	return strings.Join(tokens.Split(text), " "), OK
}
