package scout

import (
	"strings"

	"scout/tokens"
)

// Engine keeps documents.
type Engine struct {
	added  int            // how many ever; the newest document has this number
	live   map[string]int // the number of each key's live document
	buffer buffer
}

// New makes an engine (P5).
func New() *Engine {
	return &Engine{live: map[string]int{}, buffer: newBuffer()}
}

// Add adds a document (P5).
func (e *Engine) Add(key string, text string) Errno {
	if !isKey(key) {
		return ErrKey
	}
	if len(text) > maxText {
		return ErrLong
	}
	words := tokens.Split(text)
	if len(words) > maxTokens {
		return ErrTokens
	}
	if e.added >= maxDocs {
		return ErrFull
	}
	e.retire(key)
	e.put(key, words)
	return OK
}

// Delete deletes a document (P5).
func (e *Engine) Delete(key string) Errno {
	if !isKey(key) {
		return ErrKey
	}
	if !e.retire(key) {
		return ErrNone
	}
	return OK
}

// Count tells how many live documents there are (P5).
func (e *Engine) Count() int {
	return len(e.live)
}

// Segments tells how many segments there are (P6).
func (e *Engine) Segments() int { return 0 }

// Flush writes the buffer into a segment (P6).
func (e *Engine) Flush() {}

// Merge makes all segments one (P6).
func (e *Engine) Merge() {}

// Dump tells the bytes of a segment (P6).
func (e *Engine) Dump(segment int) (string, Errno) { return "", OK }

// Search finds the best documents (P7).
func (e *Engine) Search(way int, words string, k int) (string, int, Errno) { return "", 0, OK }

// put makes a document with the next number. It keeps a copy of the key, which
// may be a piece of a longer text that would else be kept alive with it.
func (e *Engine) put(key string, words []string) {
	key = strings.Clone(key)
	e.added++
	e.live[key] = e.added
	e.buffer.add(document{number: e.added, key: key, length: len(words)}, words)
}

// retire makes the live document with this key live no more, and tells
// whether there was one.
func (e *Engine) retire(key string) bool {
	number, found := e.live[key]
	if !found {
		return false
	}
	delete(e.live, key)
	e.buffer.drop(number)
	return true
}

func isKey(key string) bool {
	if len(key) < 1 || len(key) > maxKey {
		return false
	}
	for _, b := range []byte(key) {
		if !isKeyByte(b) {
			return false
		}
	}
	return true
}

func isKeyByte(b byte) bool {
	return 'a' <= b && b <= 'z' || '0' <= b && b <= '9'
}
