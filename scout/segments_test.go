package scout

import (
	"fmt"
	"maps"
	"slices"
	"strings"
	"testing"

	"scout/document"
	"scout/segment"
)

func segments(t *testing.T, e *Engine, want ...string) {
	t.Helper()
	if got := e.Segments(); got != len(want) {
		t.Errorf("P6: Segments() = %d, want %d", got, len(want))
	}
	for i, bytes := range want {
		dump(t, e, i, bytes, OK)
	}
	const most = int(^uint(0) >> 1)
	for _, i := range []int{-1, len(want), len(want) + 1, most, -most - 1} {
		dump(t, e, i, "", ErrArg)
	}
}

func dump(t *testing.T, e *Engine, segment int, want string, errno Errno) {
	t.Helper()
	if got, err := e.Dump(segment); got != want || err != errno {
		t.Errorf("P6: Dump(%d) = %q, %d, want %q, %d", segment, got, err, want, errno)
	}
}

func TestFlushAndMergeOfNothing(t *testing.T) {
	e := New()
	unchanged(t, e, func() {
		e.Flush()
		e.Merge()
		e.Merge()
	})
	segments(t, e)
	add(t, e, "k", "x", OK)
	remove(t, e, "k", OK)
	e.Flush()
	segments(t, e)
}

func TestExampleOfSegments(t *testing.T) {
	e := New()
	add(t, e, "k1", "red red blue", OK)
	add(t, e, "k2", "blue", OK)
	add(t, e, "k3", "green", OK)
	segments(t, e)
	e.Flush()
	segments(t, e, sealed(three))
	remove(t, e, "k2", OK)
	count(t, e, 2)
	segments(t, e, sealed(three))
	e.Merge()
	segments(t, e, sealed("SG\x02\x01\x03\x02k1\x02\x01\x02k3\x03\x04blue\x01\x00\x01\x03\x00\x00\x05green\x01\x01\x01\x01\x01\x00\x03red\x01\x00\x02\x03\x00\x01"))
	remove(t, e, "k2", ErrNone)
}

func TestFlushEmptiesTheBuffer(t *testing.T) {
	e := New()
	add(t, e, "k", "x", OK)
	e.Flush()
	holds(t, e, "[]", "map[]")
	unchanged(t, e, e.Flush)
	add(t, e, "j", "y", OK)
	holds(t, e, "[{2 j 1}]", "map[y:[{2 1}]]")
	unchanged(t, e, e.Merge)
}

const (
	onlyK = "SG\x01\x01\x01\x01k\x01\x01x\x01\x00\x01\x01\x00\x00" // the document k, number 1, with x
	onlyJ = "SG\x01\x02\x00\x01j\x00"                              // the document j, number 2, without tokens
	both  = "SG\x02\x01\x01\x01k\x01\x00\x01j\x01\x01x\x01\x00\x01\x01\x00\x00"
)

func TestMergeOfTwo(t *testing.T) {
	e := New()
	add(t, e, "k", "x", OK)
	e.Flush()
	add(t, e, "j", "", OK)
	e.Flush()
	segments(t, e, sealed(onlyK), sealed(onlyJ))
	add(t, e, "i", "x", OK)
	e.Merge()
	segments(t, e, sealed(both))
	holds(t, e, "[{3 i 1}]", "map[x:[{3 1}]]")
	unchanged(t, e, e.Merge)
	count(t, e, 3)
}

func TestMergeLeavesOutWhatIsLiveNoMore(t *testing.T) {
	e := New()
	add(t, e, "k", "x", OK)
	add(t, e, "j", "", OK)
	e.Flush()
	add(t, e, "k", "y", OK) // replaces from the buffer
	segments(t, e, sealed(both))
	e.Merge()
	segments(t, e, sealed(onlyJ))
	remove(t, e, "j", OK)
	segments(t, e, sealed(onlyJ))
	e.Merge()
	segments(t, e)
	count(t, e, 1)
	e.Flush()
	segments(t, e, sealed("SG\x01\x03\x01\x01k\x01\x01y\x01\x00\x01\x01\x00\x00"))
}

// A key that comes back does not make its old document live again.
func TestKeysThatComeBack(t *testing.T) {
	e := New()
	add(t, e, "k", "x", OK)
	e.Flush()
	remove(t, e, "k", OK)
	add(t, e, "k", "x", OK)
	e.Flush()
	again := sealed("SG\x01\x02\x01\x01k\x01\x01x\x01\x00\x01\x01\x00\x00")
	segments(t, e, sealed(onlyK), again)
	e.Merge()
	segments(t, e, again)
	remove(t, e, "k", OK)
	remove(t, e, "k", ErrNone)
	e.Merge()
	segments(t, e)
}

func TestDocumentsInSegmentsCountForFull(t *testing.T) {
	e := New()
	for i := range 100 {
		add(t, e, fmt.Sprintf("k%d", i%7), "x", OK)
		e.Flush()
	}
	if n := e.Segments(); n != 100 {
		t.Errorf("P6: Segments() = %d", n)
	}
	unchanged(t, e, func() { add(t, e, "k", "x", ErrFull) })
	count(t, e, 7)
	e.Merge()
	if n := e.Segments(); n != 1 {
		t.Errorf("P6: Segments() = %d", n)
	}
	add(t, e, "k", "x", ErrFull)
	count(t, e, 7)
}

// The greatest segment that an engine can write is still within the bound.
func TestGreatestSegment(t *testing.T) {
	e := New()
	for i := range 100 {
		text := ""
		for j := range 40 {
			text += fmt.Sprintf("%04d ", 40*i+j)
		}
		add(t, e, fmt.Sprintf("%08d", i), text, OK)
		if i%9 == 0 {
			e.Flush()
		}
	}
	e.Flush()
	e.Merge()
	text, _ := e.Dump(0)
	out, errno := Open(text)
	if errno != OK || strings.Count(out, ";") != 4100 || strings.Count(out, "*1") != 4000 || !strings.HasPrefix(out, "1:00000000:40;2:00000001:40;") {
		t.Errorf("P4: Open of %d bytes = %.80q, %d", len(text), out, errno)
	}
}

func TestSegmentsOfEnginesAreApart(t *testing.T) {
	a, b := New(), New()
	for _, e := range []*Engine{a, b} {
		add(t, e, "k", "x", OK)
		add(t, e, "j", "", OK)
	}
	unchanged(t, b, func() {
		a.Flush()
		remove(t, a, "k", OK)
		a.Merge()
	})
	b.Flush()
	segments(t, a, sealed(onlyJ))
	segments(t, b, sealed(both))
}

// Bytes that an engine did not write cannot come into it; if they did, nothing
// would be lost.
func TestMergeOfSpoiltSegments(t *testing.T) {
	e := New()
	add(t, e, "k", "x", OK)
	e.Flush()
	for _, spoilt := range []string{"", "SG", sealed(onlyK) + "\x00", strings.Repeat("S", 60001)} {
		e.segments = []string{sealed(onlyK), spoilt}
		unchanged(t, e, e.Merge)
	}
}

// kept is a document as the tests have it: with all its words.
type kept struct {
	number int
	key    string
	words  []string
}

// shadow is an engine as the tests have it.
type shadow struct {
	added    int
	live     map[string]int
	buffer   []kept
	segments [][]kept
}

func (s *shadow) isLive(d kept) bool { return s.live[d.key] == d.number }

func (s *shadow) add(key, text string) {
	s.added++
	s.live[key] = s.added
	s.buffer = append(s.buffer, kept{s.added, key, strings.Fields(text)})
}

func (s *shadow) liveOf(documents []kept) []kept {
	var found []kept
	for _, d := range documents {
		if s.isLive(d) {
			found = append(found, d)
		}
	}
	return found
}

func (s *shadow) flush() {
	if l := s.liveOf(s.buffer); len(l) > 0 {
		s.segments = append(s.segments, l)
	}
	s.buffer = nil
}

func (s *shadow) merge() {
	l := s.liveOf(slices.Concat(s.segments...))
	s.segments = nil
	if len(l) > 0 {
		s.segments = [][]kept{l}
	}
}

// told tells what Open should tell of a segment, and its content.
func told(documents []kept) (string, segment.Content) {
	out := ""
	var c segment.Content
	places := map[string][]segment.Place{}
	for ordinal, d := range documents {
		out += fmt.Sprintf("%d:%s:%d;", d.number, d.key, len(d.words))
		c.Documents = append(c.Documents, document.Document{Number: d.number, Key: d.key, Length: len(d.words)})
		counts := map[string]int{}
		for _, w := range d.words {
			counts[w]++
		}
		for w, n := range counts {
			places[w] = append(places[w], segment.Place{Ordinal: ordinal, Count: n})
		}
	}
	for _, w := range slices.Sorted(maps.Keys(places)) {
		out += w
		for _, p := range places[w] {
			out += fmt.Sprintf(",%d*%d", p.Ordinal, p.Count)
		}
		out += ";"
		c.Lists = append(c.Lists, segment.ListOf(w, places[w], c.Documents))
	}
	return out, c
}

func (s *shadow) compare(t *testing.T, e *Engine) {
	t.Helper()
	count(t, e, len(s.live))
	if got := e.Segments(); got != len(s.segments) {
		t.Fatalf("P6: Segments() = %d, want %d", got, len(s.segments))
	}
	for i, documents := range s.segments {
		listing, content := told(documents)
		text := segment.Write(content)
		dump(t, e, i, text, OK)
		open(t, text, listing, OK)
	}
	dump(t, e, len(s.segments), "", ErrArg)
}

// drawText tells a text of some words, mostly of the first ones.
func drawText(draw func(int) int) string {
	words := []string{"red", "blue", "x", "é", "0", "green", "zoo", "abcdefghij"}
	text := ""
	for range draw(1 + draw(41)) {
		text += words[draw(1+draw(len(words)))] + " "
	}
	if len(text) > maxText {
		return "red"
	}
	return text
}

// A long row of calls is held against lists of documents; and against an engine
// that is never flushed, whose answers must be the same (P8).
func TestManyCallsWithSegments(t *testing.T) {
	for seed := range 150 {
		state := uint32(seed)
		draw := func(n int) int {
			state = state*1664525 + 1013904223
			return int(state>>16) % n
		}
		keys := 1 + draw(40)
		e, plain, s := New(), New(), &shadow{live: map[string]int{}}
		for range 150 {
			key := fmt.Sprintf("k%d", draw(keys))
			switch draw(10) {
			case 0:
				e.Flush()
				s.flush()
			case 1:
				e.Merge()
				s.merge()
			case 2, 3:
				want := OK
				if s.live[key] == 0 {
					want = ErrNone
				}
				delete(s.live, key)
				remove(t, e, key, want)
				remove(t, plain, key, want)
			default:
				want, text := OK, drawText(draw)
				if s.added == 100 {
					want = ErrFull
				} else {
					s.add(key, text)
				}
				add(t, e, key, text, want)
				add(t, plain, key, text, want)
			}
			s.compare(t, e)
			count(t, plain, e.Count())
		}
	}
}
