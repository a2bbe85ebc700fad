package scout

import (
	"cmp"
	"fmt"
	"slices"
	"strings"
	"sync"
	"testing"
)

const mostInt = int(^uint(0) >> 1)

func find(t *testing.T, e *Engine, way int, words string, k int, want string, rated int, errno Errno) {
	t.Helper()
	if s, n, err := e.Search(way, words, k); s != want || n != rated || err != errno {
		t.Errorf("P7: Search(%d, %.40q, %d) = %q, %d, %d, want %q, %d, %d", way, words, k, s, n, err, want, rated, errno)
	}
}

// findAllWays holds way 0 against what it must answer, and the other ways against
// it: they rate no more than the way ahead.
func findAllWays(t *testing.T, e *Engine, words string, k int, want string, rated int) {
	t.Helper()
	find(t, e, 0, words, k, want, rated, OK)
	for way := 1; way <= 2; way++ {
		if s, n, errno := e.Search(way, words, k); s != want || n > rated || n < 0 || errno != OK {
			t.Errorf("P7: Search(%d, %q, %d) = %q, %d, %d, want %q, at most %d", way, words, k, s, n, errno, want, rated)
		} else {
			rated = n
		}
	}
}

func example(t *testing.T) *Engine {
	t.Helper()
	e := New()
	add(t, e, "k1", "red red blue", OK)
	add(t, e, "k2", "blue", OK)
	add(t, e, "k3", "green", OK)
	return e
}

func TestSearchExample(t *testing.T) {
	e := example(t)
	for _, then := range []func(){e.Flush, e.Merge, e.Flush, func() {}} {
		findAllWays(t, e, "red", 9, "k1=25083960", 1)
		findAllWays(t, e, "blue", 9, "k2=11988774,k1=7554528", 2)
		findAllWays(t, e, "blue", mostInt, "k2=11988774,k1=7554528", 2)
		findAllWays(t, e, "blue", 1, "k2=11988774", 2)
		findAllWays(t, e, "red blue red", 1, "k1=32638488", 2)
		findAllWays(t, e, "BLUE the Réd (red)!", 9, "k1=32638488,k2=11988774", 2)
		findAllWays(t, e, "red yellow", 9, "k1=25083960", 1)
		for _, k := range []int{0, -1, -mostInt - 1} {
			findAllWays(t, e, "blue", k, "", 0)
		}
		for _, words := range []string{"", " ", "the of", "yellow", "re", "redd", "\xff", "k1"} {
			findAllWays(t, e, words, 9, "", 0)
		}
		then()
	}
}

func TestSearchOfNothing(t *testing.T) {
	e := New()
	findAllWays(t, e, "red", 9, "", 0)
	add(t, e, "k", "", OK)
	findAllWays(t, e, "red", 9, "", 0)
	e.Flush()
	findAllWays(t, e, "red", 9, "", 0)
	add(t, e, "k", "red", OK)
	findAllWays(t, e, "blue", 9, "", 0)
	remove(t, e, "k", OK)
	findAllWays(t, e, "red", 9, "", 0)
	e.Merge()
	findAllWays(t, e, "red", 9, "", 0)
}

func TestWrongWays(t *testing.T) {
	for _, e := range []*Engine{New(), example(t)} {
		for _, way := range []int{-mostInt - 1, -2, -1, 3, 4, 256, 1 << 32, mostInt} {
			find(t, e, way, "red", 9, "", 0, ErrArg)
			find(t, e, way, "red", 0, "", 0, ErrArg)
			find(t, e, way, strings.Repeat("x", 201), 9, "", 0, ErrArg)
			find(t, e, way, "1 2 3 4 5 6 7", 9, "", 0, ErrArg)
		}
	}
}

func TestLongWords(t *testing.T) {
	e := example(t)
	for way := range 3 {
		for _, k := range []int{-1, 0, 1, 9} {
			find(t, e, way, strings.Repeat("red ", 50)+"r", k, "", 0, ErrLong)
			find(t, e, way, strings.Repeat(" ", 201), k, "", 0, ErrLong)
			find(t, e, way, strings.Repeat("é", 100)+".", k, "", 0, ErrLong)
			find(t, e, way, strings.Repeat("1 2 3 4 5 6 7 ", 15), k, "", 0, ErrLong)
		}
	}
	// The bound on a text's tokens is none on a question's.
	findAllWays(t, e, strings.Repeat("red ", 50), 9, "k1=25083960", 1)
	findAllWays(t, e, strings.Repeat("b ", 98)+"red ", 9, "k1=25083960", 1)
	findAllWays(t, e, "red"+strings.Repeat(".", 197), 9, "k1=25083960", 1)
}

func TestManyTerms(t *testing.T) {
	e := example(t)
	for way := range 3 {
		for _, k := range []int{-mostInt - 1, 0, 1, mostInt} {
			find(t, e, way, "1 2 3 4 5 6 red", k, "", 0, ErrTerms)
			find(t, e, way, "red blue green 1 2 3 red blue green 4", k, "", 0, ErrTerms)
			find(t, e, way, strings.Repeat("x y z u v w s ", 14), k, "", 0, ErrTerms)
		}
	}
	findAllWays(t, e, "1 2 3 4 5 red", 9, "k1=25083960", 1)
	findAllWays(t, e, "1 2 3 4 5 red 5 4 3 RED Red", 9, "k1=25083960", 1)
	findAllWays(t, e, "a 1 an 2 and 3 in 4 is 5 of red the to", 9, "k1=25083960", 1)
	findAllWays(t, e, "abcdefghijk abcdefghijl ABCDEFGHIJ 1 2 3 4 red", 9, "k1=25083960", 1)
	findAllWays(t, e, "abcdefghij abcdefghi 1 2 3 red", 9, "k1=25083960", 1)
	find(t, e, 0, "abcdefghij abcdefghi 1 2 3 4 red", 9, "", 0, ErrTerms)
}

// Replaced and deleted documents neither are found nor count for the others,
// though a segment has them still.
func TestSearchLeavesOutWhatIsLiveNoMore(t *testing.T) {
	e := New()
	add(t, e, "k2", "red green", OK)
	add(t, e, "k4", "red", OK)
	e.Flush()
	add(t, e, "k1", "red red blue", OK)
	add(t, e, "k5", "blue blue", OK)
	e.Flush()
	add(t, e, "k2", "blue", OK)
	add(t, e, "k3", "red", OK)
	add(t, e, "k3", "green", OK)
	remove(t, e, "k4", OK)
	remove(t, e, "k5", OK)
	for _, then := range []func(){e.Flush, e.Merge, func() {}} {
		findAllWays(t, e, "red", 9, "k1=25083960", 1)
		findAllWays(t, e, "blue", 9, "k2=11988774,k1=7554528", 2)
		findAllWays(t, e, "red blue", 9, "k1=32638488,k2=11988774", 2)
		then()
	}
}

func TestSearchTies(t *testing.T) {
	e := New()
	for _, key := range []string{"d", "c", "b"} {
		add(t, e, key, "x y", OK)
		e.Flush()
	}
	add(t, e, "a", "y x", OK)
	add(t, e, "d", "x y", OK)
	// n 4, l 8, f 4: the weight is lg(655360 / 9) - 4096 = 28, the rest 1441792 times 8 / (80 + 24 + 72).
	row := []string{"c=1835008", "b=1835008", "a=1835008", "d=1835008"}
	for range 3 {
		for k := 1; k <= 5; k++ {
			findAllWays(t, e, "x", k, strings.Join(row[:min(k, 4)], ","), 4)
		}
		e.Flush()
	}
	e.Merge()
	findAllWays(t, e, "x", 3, strings.Join(row[:3], ","), 4)
}

func TestSearchChangesNothing(t *testing.T) {
	e := example(t)
	e.Flush()
	remove(t, e, "k3", OK)
	add(t, e, "k4", "blue green", OK)
	unchanged(t, e, func() {
		for _, words := range []string{"", "red", "blue green yellow", "1 2 3 4 5 6 7", strings.Repeat("x", 201)} {
			for way := -1; way <= 3; way++ {
				for k := -1; k <= 4; k++ {
					e.Search(way, words, k)
				}
			}
		}
	})
}

// Bytes that an engine did not write cannot come into it; if they did, the answer
// would not hide it.
func TestSearchOfSpoiltSegments(t *testing.T) {
	e := example(t)
	for _, spoilt := range []string{"", "SG", sealed(three) + "\x00"} {
		e.segments = []string{sealed(three), spoilt}
		for way := range 3 {
			find(t, e, way, "red", 9, "", 0, ErrCorrupt)
		}
	}
}

// worthOf reckons by the document's words what a document is worth for a token.
func worthOf(live []kept, d kept, token string) int {
	n, l, f, c := len(live), 0, 0, 0
	for _, other := range live {
		l += len(other.words)
		if slices.Contains(other.words, token) {
			f++
		}
	}
	for _, word := range d.words {
		if word == token {
			c++
		}
	}
	if c == 0 {
		return 0
	}
	x, b, power := (2*n+2)*65536/(2*f+1), 0, 1
	for x >= 2*power {
		b, power = b+1, 2*power
	}
	weight := 256*b + 256*x/power - 256 - 4096
	return weight * (1441792 * c * l / (10*c*l + 3*l + 9*len(d.words)*n))
}

// search tells the answer of way 0: all live documents, rated and sorted.
func (s *shadow) search(tokens []string, k int) (string, int) {
	type hit struct {
		kept
		worth int
	}
	live := s.liveOf(append(slices.Concat(s.segments...), s.buffer...))
	var hits []hit
	rated := 0
	for _, d := range live {
		h, has := hit{kept: d}, false
		for _, token := range tokens {
			h.worth += worthOf(live, d, token)
			has = has || slices.Contains(d.words, token)
		}
		if has {
			rated++
		}
		if h.worth > 0 {
			hits = append(hits, h)
		}
	}
	slices.SortFunc(hits, func(a, b hit) int {
		return cmp.Or(cmp.Compare(b.worth, a.worth), cmp.Compare(a.number, b.number))
	})
	var out []string
	for _, h := range hits[:min(k, len(hits))] {
		out = append(out, fmt.Sprintf("%s=%d", h.key, h.worth))
	}
	return strings.Join(out, ","), rated
}

// After a row of calls an engine, and one that is never flushed (P8), answers as
// a plain list of documents does.
func TestSearchBehindManyCalls(t *testing.T) {
	for seed := range 150 {
		state := uint32(seed)
		draw := func(n int) int {
			state = state*1664525 + 1013904223
			return int(state>>16) % n
		}
		keys := 1 + draw(60)
		e, plain, s := New(), New(), &shadow{live: map[string]int{}}
		for range 1 + draw(140) {
			key := fmt.Sprintf("k%d", draw(keys))
			switch draw(12) {
			case 0:
				e.Flush()
				s.flush()
			case 1:
				e.Merge()
				s.merge()
			case 2, 3:
				e.Delete(key)
				plain.Delete(key)
				delete(s.live, key)
			default:
				text := drawText(draw)
				if e.Add(key, text) == OK {
					s.add(key, text)
				}
				plain.Add(key, text)
			}
		}
		for _, words := range []string{"red", "zoo", "x é", "blue green none", "0 abcdefghij zoo green é x"} {
			k := 1 + draw(1+draw(100))
			want, rated := s.search(strings.Fields(words), k)
			findAllWays(t, e, words, k, want, rated)
			findAllWays(t, plain, words, k, want, rated)
		}
	}
}

// As many documents, tokens and segments as there can be.
func TestSearchOfTheGreatest(t *testing.T) {
	e, s := New(), &shadow{live: map[string]int{}}
	for i := range 100 {
		text := strings.Repeat("x ", 1+i%7)
		for j := range 39 - i%7 {
			text += fmt.Sprintf("%c%d ", 'b'+i%20, j/5)
		}
		key := fmt.Sprintf("k%d", i)
		add(t, e, key, text, OK)
		s.add(key, text)
		e.Flush()
	}
	for _, words := range []string{"x", "b0", "x b0 c1 d2 e3 f4", "x u0"} {
		for _, k := range []int{1, 10, 99, 100, 101} {
			want, rated := s.search(strings.Fields(words), k)
			findAllWays(t, e, words, k, want, rated)
		}
	}
	if n := e.Segments(); n != 100 {
		t.Errorf("P6: Segments() = %d", n)
	}
}

func TestSearchOfEnginesSideBySide(t *testing.T) {
	var all sync.WaitGroup
	for i := range 8 {
		all.Go(func() {
			e := example(t)
			if i%2 == 1 {
				e.Flush()
			}
			for range 50 {
				findAllWays(t, e, "blue", 9, "k2=11988774,k1=7554528", 2)
			}
		})
	}
	all.Wait()
}

func TestSearchOfEnginesIsApart(t *testing.T) {
	a, b := example(t), example(t)
	b.Flush()
	add(t, b, "k4", "red blue green", OK)
	remove(t, b, "k2", OK)
	findAllWays(t, a, "blue", 9, "k2=11988774,k1=7554528", 2)
	b.Merge()
	findAllWays(t, a, "red", 9, "k1=25083960", 1)
}
