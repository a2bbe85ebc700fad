// Package document says what a document is, and within which bounds.
package document

const (
	MaxKey    = 8   // bytes of a key
	MaxTokens = 40  // of a document
	MaxDocs   = 100 // that an engine ever takes, and the greatest number of one
)

// Document is what is known of a document beside where its words stand.
type Document struct {
	Number int
	Key    string
	Length int // how many tokens it has
}

// IsKey tells whether a text is a key.
func IsKey(text string) bool {
	if len(text) < 1 || len(text) > MaxKey {
		return false
	}
	for _, b := range []byte(text) {
		if !isKeyByte(b) {
			return false
		}
	}
	return true
}

func isKeyByte(b byte) bool {
	return 'a' <= b && b <= 'z' || '0' <= b && b <= '9'
}
