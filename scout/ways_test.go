package scout

import (
	"fmt"
	"strings"
	"testing"
)

// ratedBy tells how many documents each way rates.
func ratedBy(t *testing.T, e *Engine, words string, k int, want ...int) {
	t.Helper()
	for way := range 3 {
		if _, n, errno := e.Search(way, words, k); n != want[way] || errno != OK {
			t.Errorf("P7: Search(%d, %q, %d) rates %d, %d, want %d", way, words, k, n, errno, want[way])
		}
	}
}

// addRow adds so many texts, each under a key that is its number behind a k.
func addRow(t *testing.T, e *Engine, many int, text string) {
	t.Helper()
	for range many {
		add(t, e, fmt.Sprintf("k%d", e.added+1), text, OK)
	}
}

// Behind a few good documents many weak ones are left out, in the buffer and in
// a segment, however many segments there are.
func TestWeakDocumentsAreLeftOut(t *testing.T) {
	e := New()
	addRow(t, e, 4, "red red red blue")
	addRow(t, e, 40, "red sea sea sun")
	addRow(t, e, 3, "blue sea sea sun sun sun sun")
	addRow(t, e, 4, "red red red blue")
	for _, then := range []func(){e.Flush, e.Merge, func() {}} {
		ratedBy(t, e, "red blue", 2, 51, 8, 8)
		ratedBy(t, e, "red blue", 8, 51, 51, 51)
		ratedBy(t, e, "red blue", 0, 0, 0, 0)
		then()
	}
	addRow(t, e, 2, "red red blue")
	addRow(t, e, 30, "red sea")
	for _, then := range []func(){e.Flush, func() {}} {
		ratedBy(t, e, "red blue", 2, 83, 10, 10)
		then()
	}
	// In one segment the short ones raise the bound of all blue; way 2 sees in which blocks.
	e.Merge()
	ratedBy(t, e, "red blue", 2, 83, 13, 10)
}

// For one word way 1 has nothing to leave out, but way 2 steps over blocks, of the
// buffer and of a segment alike.
func TestWeakBlocksAreSteppedOver(t *testing.T) {
	e := New()
	addRow(t, e, 2, "red red red")
	addRow(t, e, 41, "red sea")
	for _, then := range []func(){e.Flush, e.Merge, func() {}} {
		ratedBy(t, e, "red", 2, 43, 43, 4)
		ratedBy(t, e, "red", 1, 43, 43, 4)
		ratedBy(t, e, "red", 3, 43, 43, 43)
		then()
	}
	remove(t, e, "k1", OK)
	ratedBy(t, e, "red", 1, 42, 42, 3)
	ratedBy(t, e, "red", 2, 42, 42, 42)
	e.Merge()
	ratedBy(t, e, "red", 1, 42, 42, 4)
}

// A segment's heads tell of documents that are live no more, when nothing is left
// to weigh them against.
func TestWaysWhereNothingIsLive(t *testing.T) {
	for _, text := range []string{"", "the", "..."} {
		e := New()
		addRow(t, e, 9, "red red blue")
		e.Flush()
		for i := range 9 {
			remove(t, e, fmt.Sprintf("k%d", i+1), OK)
		}
		findAllWays(t, e, "red blue", 1, "", 0)
		add(t, e, "k", text, OK)
		findAllWays(t, e, "red blue", 1, "", 0)
		e.Flush()
		findAllWays(t, e, "red blue", 1, "", 0)
		add(t, e, "k", "red", OK)
		want, rated := fmt.Sprintf("k=%d", worthOf([]kept{{words: []string{"red"}}}, kept{words: []string{"red"}}, "red")), 1
		findAllWays(t, e, "red blue", 1, want, rated)
	}
}

// twins get the same calls; Flush and Merge are put in for one of them alone.
type twins struct {
	plain, moved *Engine
}

func (w twins) call(t *testing.T, name string, call func(e *Engine) string) {
	t.Helper()
	if a, b := call(w.plain), call(w.moved); a != b {
		t.Fatalf("P8: %s = %s without, %s with Flush and Merge", name, a, b)
	}
}

// searched tells all that P8 says is the same.
func searched(e *Engine, words string, k int) string {
	told := ""
	for way := -1; way <= 3; way++ {
		s, rated, errno := e.Search(way, words, k)
		if way > 0 {
			rated = 0
		}
		told += fmt.Sprintf("%s %d %d;", s, rated, errno)
	}
	return told
}

func TestFlushAndMergeAreNotSeen(t *testing.T) {
	for seed := range 100 {
		state := uint32(seed)
		draw := func(n int) int {
			state = state*1664525 + 1013904223
			return int(state>>16) % n
		}
		w := twins{New(), New()}
		keys, often := 1+draw(60), 1+draw(12)
		for range 130 {
			key := fmt.Sprintf("k%d", draw(keys))
			if draw(20) == 0 {
				key = wrongKeys[draw(len(wrongKeys))]
			}
			text := drawText(draw)
			if draw(20) == 0 {
				text = strings.Repeat("x ", 41+draw(100))
			}
			if draw(4) == 0 {
				w.call(t, "Delete", func(e *Engine) string { return fmt.Sprint(e.Delete(key)) })
			} else {
				w.call(t, "Add", func(e *Engine) string { return fmt.Sprint(e.Add(key, text)) })
			}
			if draw(often) == 0 {
				[]func(){w.moved.Flush, w.moved.Merge}[draw(2)]()
			}
			w.call(t, "Count", func(e *Engine) string { return fmt.Sprint(e.Count()) })
			words := []string{"red", "x zoo", "blue red é", "0 abcdefghij zoo green é x", "1 2 3 4 5 6 7", ""}[draw(6)]
			k := draw(9) - 1
			w.call(t, fmt.Sprintf("Search of %q, %d", words, k), func(e *Engine) string { return searched(e, words, k) })
		}
	}
}

// Each single Flush and Merge is held against what was answered ahead of it.
func TestFlushAndMergeChangeNoAnswer(t *testing.T) {
	e := New()
	addRow(t, e, 9, "red red blue")
	e.Flush()
	addRow(t, e, 6, "red sea")
	remove(t, e, "k3", OK)
	add(t, e, "k5", "blue sea", OK)
	e.Flush()
	addRow(t, e, 3, "blue")
	remove(t, e, "k11", OK)
	remove(t, e, "k18", OK)
	before := searched(e, "red blue", 5) + searched(e, "sea", 30) + fmt.Sprint(e.Count())
	for i, then := range []func(){e.Merge, e.Flush, e.Flush, e.Merge, e.Merge} {
		then()
		if after := searched(e, "red blue", 5) + searched(e, "sea", 30) + fmt.Sprint(e.Count()); after != before {
			t.Errorf("P8: behind the call %d the answer is %s, was %s", i, after, before)
		}
	}
	remove(t, e, "k3", ErrNone)
	remove(t, e, "k5", OK)
	remove(t, e, "k5", ErrNone)
	add(t, e, "k17", strings.Repeat("x ", 41), ErrTokens)
	count(t, e, 14)
}
