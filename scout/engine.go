package scout

import (
	"strings"

	"scout/document"
	"scout/segment"
	"scout/tokens"
)

// Engine keeps documents.
type Engine struct {
	added    int            // how many ever; the newest document has this number
	live     map[string]int // the number of each key's live document
	buffer   buffer         // live documents alone
	segments []string       // the bytes of each, the oldest first
}

// New makes an engine (P5).
func New() *Engine {
	return &Engine{live: map[string]int{}, buffer: newBuffer()}
}

// Add adds a document (P5).
func (e *Engine) Add(key string, text string) Errno {
	if !document.IsKey(key) {
		return ErrKey
	}
	if len(text) > maxText {
		return ErrLong
	}
	words := tokens.Split(text)
	if len(words) > document.MaxTokens {
		return ErrTokens
	}
	if e.added >= document.MaxDocs {
		return ErrFull
	}
	e.retire(key)
	e.put(key, words)
	return OK
}

// Delete deletes a document (P5).
func (e *Engine) Delete(key string) Errno {
	if !document.IsKey(key) {
		return ErrKey
	}
	if !e.retire(key) {
		return ErrNone
	}
	return OK
}

// Count tells how many live documents there are (P5).
func (e *Engine) Count() int {
	return len(e.live)
}

// Segments tells how many segments there are (P6).
func (e *Engine) Segments() int {
	return len(e.segments)
}

// Flush writes the buffer into a segment (P6).
func (e *Engine) Flush() {
	e.segments = append(e.segments, e.buffer.written()...)
	e.buffer.empty()
}

// Merge makes all segments one (P6). As a later segment has greater numbers,
// their documents come together in the order of their numbers.
func (e *Engine) Merge() {
	merged := newBuffer()
	for _, text := range e.segments {
		content, err := segment.Read(text)
		if err != nil {
			return // Not to be: the engine wrote these bytes itself. Nothing has changed yet.
		}
		merged.take(content, e.isLive)
	}
	e.segments = merged.written()
}

// Dump tells the bytes of a segment (P6).
func (e *Engine) Dump(segment int) (string, Errno) {
	if segment < 0 || segment >= len(e.segments) {
		return "", ErrArg
	}
	return e.segments[segment], OK
}

// put makes a document with the next number. It keeps a copy of the key, which
// may be a piece of a longer text that would else be kept alive with it.
func (e *Engine) put(key string, words []string) {
	key = strings.Clone(key)
	e.added++
	e.live[key] = e.added
	e.buffer.add(document.Document{Number: e.added, Key: key, Length: len(words)}, words)
}

// retire makes the live document with this key live no more, and tells
// whether there was one.
func (e *Engine) retire(key string) bool {
	number, found := e.live[key]
	if !found {
		return false
	}
	delete(e.live, key)
	e.buffer.drop(number)
	return true
}

// isLive tells of a document that was added whether it is live still.
func (e *Engine) isLive(d document.Document) bool {
	return e.live[d.Key] == d.Number
}
