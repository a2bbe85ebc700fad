// Package tokens cuts a text into the words that it is found by.
package tokens

import "strings"

// MaxToken is how many letters of a run a token keeps.
const MaxToken = 10

// Split tells the tokens of a text, in their order.
func Split(text string) []string {
	var found []string
	for _, run := range strings.FieldsFunc(text, isNoLetter) {
		if token := fromRun(run); !isCommon(token) {
			found = append(found, token)
		}
	}
	return found
}

// IsToken tells whether a text is a token: it is cut into itself alone.
func IsToken(text string) bool {
	found := Split(text)
	return len(found) == 1 && found[0] == text
}

// fromRun writes letter by letter, even where all of them are small already:
// a token that were a piece of the text would keep the whole text alive.
func fromRun(run string) string {
	var token strings.Builder
	letters := 0
	for _, letter := range run {
		if letters == MaxToken {
			break
		}
		token.WriteRune(small(letter))
		letters++
	}
	return token.String()
}

func isNoLetter(r rune) bool {
	return !isLetter(r)
}

func isLetter(r rune) bool {
	switch {
	case '0' <= r && r <= '9', 'A' <= r && r <= 'Z', 'a' <= r && r <= 'z':
		return true
	}
	return '\u00c0' <= r && r <= '\u00ff' && r != '\u00d7' && r != '\u00f7'
}

// small tells the small form of a letter. U+00D7 lies among the great letters
// but is none itself, so it does not come here.
func small(letter rune) rune {
	if 'A' <= letter && letter <= 'Z' || '\u00c0' <= letter && letter <= '\u00de' {
		return letter + 32
	}
	return letter
}

// isCommon tells the words that stand in nearly every text and so find none.
func isCommon(token string) bool {
	switch token {
	case "a", "an", "and", "in", "is", "of", "the", "to":
		return true
	}
	return false
}
