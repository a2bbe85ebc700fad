package scout

import (
	"fmt"
	"strings"
	"testing"
)

// holds tells whether the engine's buffer has these documents (number, key,
// length) and words with their places (number, count).
func holds(t *testing.T, e *Engine, documents, words string) {
	t.Helper()
	if got := fmt.Sprint(e.buffer.documents); got != documents {
		t.Errorf("P5: the buffer has the documents %s, want %s", got, documents)
	}
	if got := fmt.Sprint(e.buffer.words); got != words {
		t.Errorf("P5: the buffer has the words %s, want %s", got, words)
	}
}

func TestBufferOfANewEngine(t *testing.T) {
	holds(t, New(), "[]", "map[]")
}

func TestDocumentsGoToTheBuffer(t *testing.T) {
	e := New()
	e.Add("k1", "Red, the red blue")
	e.Add("k2", "blue")
	e.Add("k3", "of")
	holds(t, e, "[{1 k1 3} {2 k2 1} {3 k3 0}]", "map[blue:[{1 1} {2 1}] red:[{1 2}]]")
}

func TestReplacedDocumentsLeaveTheBuffer(t *testing.T) {
	e := New()
	e.Add("k1", "red red blue")
	e.Add("k2", "blue")
	e.Add("k1", "blue green blue")
	holds(t, e, "[{2 k2 1} {3 k1 3}]", "map[blue:[{2 1} {3 2}] green:[{3 1}]]")
	e.Add("k1", "")
	holds(t, e, "[{2 k2 1} {4 k1 0}]", "map[blue:[{2 1}]]")
}

func TestDeletedDocumentsLeaveTheBuffer(t *testing.T) {
	e := New()
	e.Add("k1", "red blue")
	e.Add("k2", "blue blue")
	e.Add("k3", "red blue green")
	e.Delete("k2")
	holds(t, e, "[{1 k1 2} {3 k3 3}]", "map[blue:[{1 1} {3 1}] green:[{3 1}] red:[{1 1} {3 1}]]")
	e.Delete("k1")
	holds(t, e, "[{3 k3 3}]", "map[blue:[{3 1}] green:[{3 1}] red:[{3 1}]]")
	e.Delete("k3")
	holds(t, e, "[]", "map[]")
}

func TestNumbersAreNotGivenTwice(t *testing.T) {
	e := New()
	e.Add("k1", "red")
	e.Delete("k1")
	e.Add("k1", strings.Repeat("x ", 41))
	e.Add("k1", "red")
	holds(t, e, "[{2 k1 1}]", "map[red:[{2 1}]]")
}

func TestDropOfWhatIsNotThere(t *testing.T) {
	e := New()
	e.Add("k1", "red")
	e.buffer.drop(7)
	holds(t, e, "[{1 k1 1}]", "map[red:[{1 1}]]")
}
