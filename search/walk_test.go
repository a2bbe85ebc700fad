package search

import (
	"fmt"
	"slices"
	"strings"
	"testing"

	"scout/document"
	"scout/segment"
	"scout/worth"
)

// rates tells how many documents each way rates.
func rates(t *testing.T, parts []Part, tokens string, isLive func(document.Document) bool, k int, want ...int) {
	t.Helper()
	for way := range 3 {
		if _, rated := ask(t, parts, way, tokens, isLive, k); rated != want[way] {
			t.Errorf("P7: by way %d for the best %d for %q %d documents are rated, want %d", way, k, tokens, rated, want[way])
		}
	}
}

// row makes a part of texts that are numbered from 1 on.
func row(texts ...string) Part {
	for i, text := range texts {
		texts[i] = fmt.Sprint(i+1, " ", text)
	}
	return partOf(texts...)
}

func times(n int, text string) []string {
	return slices.Repeat([]string{text}, n)
}

// Once the best are found, a document with one weak token alone is left out, but
// not one with both.
func TestWeakDocumentsAreLeftOut(t *testing.T) {
	weak := times(20, "red sea sea sun")
	front := row(slices.Concat(times(2, "red red blue"), weak)...)
	back := row(slices.Concat(weak, times(2, "red red blue"))...)
	both := row(slices.Concat(times(2, "red red blue"), weak, times(2, "red red blue"))...)
	rates(t, []Part{front}, "red blue", liveBut(), 2, 22, 2, 2)
	rates(t, []Part{front}, "red blue", liveBut(), 1, 22, 2, 2)
	rates(t, []Part{back}, "red blue", liveBut(), 2, 22, 22, 22)
	rates(t, []Part{both}, "red blue", liveBut(), 2, 24, 4, 4)
	// Where more are wanted than are good, the last of the best is weak itself.
	rates(t, []Part{front}, "red blue", liveBut(), 3, 22, 22, 22)
	rates(t, []Part{both}, "red blue", liveBut(), 22, 24, 24, 24)
}

// Each part knows its own best alone.
func TestPartsAreGoneThroughByThemselves(t *testing.T) {
	weak := times(20, "red sea sea sun")
	front := row(slices.Concat(times(2, "red red blue"), weak)...)
	rates(t, []Part{partOf("101 red red blue"), front, partOf("102 red", "103 red")}, "red blue", liveBut(), 2, 25, 5, 5)
	var apart []Part
	for i := range 30 {
		apart = append(apart, partOf(fmt.Sprint(i+1, " red blue")))
	}
	rates(t, apart, "red", liveBut(), 1, 30, 30, 30)
}

// A token alone is never too weak by itself, but its blocks can be.
func TestBlocksAreSteppedOver(t *testing.T) {
	part := row(slices.Concat(times(1, "x x x"), times(11, "x y"))...)
	rates(t, []Part{part}, "x", liveBut(), 1, 12, 12, 4)
	part = row(slices.Concat(times(4, "x y"), times(1, "x x x"), times(5, "x y"), times(3, "x x x"))...)
	rates(t, []Part{part}, "x", liveBut(), 1, 13, 13, 4+4+4+1)
	part = row(slices.Concat(times(1, "x x x"), times(7, "x y"), times(1, "x x x"), times(4, "x y"))...)
	rates(t, []Part{part}, "x", liveBut(), 1, 13, 13, 4+4)
	// A block is bounded by the best count and the least length in it, be they of two documents.
	part = row("x x x", "x", "x y", "x y", "x x x y y y y", "x", "x y", "x y", "x y", "x y", "x y", "x y")
	rates(t, []Part{part}, "x", liveBut(), 1, 12, 12, 8)
}

// Where a block of one token ends, and where another token begins, others may lie.
func TestBlocksOfSeveralTokens(t *testing.T) {
	part := row("x x x", "x z", "x z", "x z", "x z", "x z", "x y z", "x z", "x z", "x z z", "y y z", "x z")
	// Way 1 leaves out 8, 9, 10 and 12, behind the first y; way 2 also 5 and 6.
	rates(t, []Part{part}, "x y", liveBut(), 1, 12, 8, 6)
	check(t, []Part{part}, "x y", liveBut(), 1, best(part, "x y", 1), 12)
	check(t, []Part{part}, "x y", liveBut(), 2, best(part, "x y", 2), 12)
}

// Where the blocks of two tokens end one behind the other, what lies between may
// be the best: here 9, behind a block of x, but still within one of y.
func TestNoMoreIsSteppedOverThanTheShorterBlock(t *testing.T) {
	const long = " z z z z z z z z"
	texts := slices.Concat([]string{"x x x x x x"}, times(3, "x"+long), []string{"x y" + long}, times(3, "x"+long),
		[]string{strings.Repeat("x ", 20)}, times(9, "y"+long), times(20, "z"))
	part := row(texts...)
	for _, tokens := range []string{"x y", "y x"} {
		want, rated := answer([]Part{part}, tokens, liveBut(), 1)
		if !strings.HasPrefix(want, "k9=") {
			t.Fatalf("the test made a part whose best is %s", want)
		}
		check(t, []Part{part}, tokens, liveBut(), 1, want, 18)
		rates(t, []Part{part}, tokens, liveBut(), 1, rated[:]...)
	}
}

// What is worth as much as the last of the best is not less: it is not left out.
func TestAsGoodAsTheLastIsRated(t *testing.T) {
	rates(t, []Part{row(times(12, "x y")...)}, "x", liveBut(), 1, 12, 12, 12)
	rates(t, []Part{row(times(12, "x y")...)}, "x y", liveBut(), 3, 12, 12, 12)
}

// What is live no more is neither rated nor among the best, though the heads
// tell of it.
func TestDeadDocumentsAreNotRated(t *testing.T) {
	part := row(slices.Concat(times(4, "x x x"), times(4, "x y"), times(4, "x y y"), times(1, "x"))...)
	rates(t, []Part{part}, "x", liveBut(), 1, 13, 13, 4)
	rates(t, []Part{part}, "x", liveBut(1, 2, 3, 4), 1, 9, 9, 5)
	rates(t, []Part{part}, "x", liveBut(1, 2, 3), 1, 10, 10, 1)
	rates(t, []Part{part}, "x", liveBut(13), 13, 12, 12, 12)
	rates(t, []Part{part}, "x", liveBut(1, 2, 3, 4, 5, 6, 7, 8, 9, 10, 11, 12, 13), 1, 0, 0, 0)
}

func TestNothingIsRatedForNothing(t *testing.T) {
	part := row(times(9, "x y")...)
	const most = int(^uint(0) >> 1)
	for _, k := range []int{0, -1, -most - 1} {
		rates(t, []Part{part}, "x", liveBut(), k, 0, 0, 0)
	}
	rates(t, []Part{part}, "x", liveBut(), most, 9, 9, 9)
	rates(t, []Part{part}, "z", liveBut(), 1, 0, 0, 0)
	rates(t, []Part{part}, "", liveBut(), 1, 0, 0, 0)
}

func TestSeek(t *testing.T) {
	var texts []string
	for i := range 40 {
		texts = append(texts, []string{"x", "y", "x x"}[i%3])
	}
	list := row(texts...).List("x") // 27 places, from 0 to 39
	for from := range len(list.Places) {
		for ordinal := -1; ordinal <= 41; ordinal++ {
			c := newCursor(list, 1, worth.Whole{Documents: 40, Length: 53})
			c.at = from
			c.seek(ordinal)
			want := from
			for want < len(list.Places) && list.Places[want].Ordinal < ordinal {
				want++
			}
			if c.hasEnded() != (want == len(list.Places)) || (!c.hasEnded() && c.at != want) {
				t.Errorf("P7: from %d on the ordinal %d is sought at %d, want %d", from, ordinal, c.at, want)
			}
		}
	}
}

func TestBounds(t *testing.T) {
	part := row("x x y", "x", "x y", "x y", "x x x y y y y", "y")
	whole := worth.Whole{Documents: 6, Length: 16}
	c := newCursor(part.List("x"), 9, whole)
	if want := []int{whole.Worth(9, 2, 1), whole.Worth(9, 3, 7)}; !slices.Equal(c.bounds, want) || c.bound != slices.Max(want) {
		t.Errorf("P7: the bounds are %v and %d, want %v", c.bounds, c.bound, want)
	}
	c.seek(4)
	if c.blockBound() != whole.Worth(9, 3, 7) || c.behindBlock() != 5 {
		t.Errorf("P7: the block's bound is %d, behind it lies %d", c.blockBound(), c.behindBlock())
	}
}

// weighed is a document as the tests have it: its worth, and what bounds this by
// way 1 and by way 2.
type weighed struct {
	hit    Hit
	isLive bool
	bounds [2]int
}

// weigh tells of those documents of a part that have one of the tokens what they
// are worth, and what bounds that.
func weigh(r *rater, part Part) []weighed {
	found := map[int]weighed{}
	for _, t := range r.terms {
		places := part.List(t.token).Places
		ofBlock := make([]int, len(places))
		for i := range places {
			greatest, least := 0, 1000
			for _, p := range places[i/4*4 : min(i/4*4+4, len(places))] {
				greatest, least = max(greatest, p.Count), min(least, part.Documents[p.Ordinal].Length)
			}
			ofBlock[i] = r.whole.Worth(t.weight, greatest, least)
		}
		for i, p := range places {
			d := part.Documents[p.Ordinal]
			w := found[p.Ordinal]
			w.hit.Number, w.hit.Key, w.isLive = d.Number, d.Key, r.isLive(d)
			w.hit.Worth += r.whole.Worth(t.weight, p.Count, d.Length)
			w.bounds[0] += slices.Max(ofBlock)
			w.bounds[1] += ofBlock[i]
			found[p.Ordinal] = w
		}
	}
	var all []weighed
	for ordinal := range part.Documents {
		if w, has := found[ordinal]; has {
			all = append(all, w)
		}
	}
	return all
}

// answer tells by the document's words what each way must answer: one document
// behind the other, each held against the best that its part had so far.
func answer(parts []Part, tokens string, isLive func(document.Document) bool, k int) (best string, rated [3]int) {
	r := raterFor(parts, isLive, strings.Fields(tokens))
	var all []Hit
	for _, part := range parts {
		var before []Hit
		for _, w := range weigh(r, part) {
			if !w.isLive {
				continue
			}
			rated[0]++
			for i, bound := range w.bounds {
				if len(before) < k || bound >= before[k-1].Worth {
					rated[i+1]++
				}
			}
			before = append(before, w.hit)
			slices.SortFunc(before, compareHits)
		}
		all = append(all, before...)
	}
	slices.SortFunc(all, compareHits)
	var told []string
	for _, hit := range all[:min(k, len(all))] {
		told = append(told, fmt.Sprintf("%s=%d", hit.Key, hit.Worth))
	}
	return strings.Join(told, ","), rated
}

func best(part Part, tokens string, k int) string {
	told, _ := answer([]Part{part}, tokens, liveBut(), k)
	return told
}

// Documents that are drawn, by all ways, in parts of all sizes; what is rated is
// the same at each run.
func TestWaysAgree(t *testing.T) {
	less := [3]int{}
	for seed := range 600 {
		state := uint32(seed)
		draw := func(n int) int {
			state = state*1664525 + 1013904223
			return int(state>>16) % n
		}
		texts, dead := make([][]string, 1+draw(1+draw(5))), []int{}
		kinds := 1 + draw(9)
		for number := 1; number <= draw(101); number++ {
			text := fmt.Sprint(number)
			for range draw(2 + draw(20)) {
				text += fmt.Sprintf(" w%d", draw(1+draw(kinds)))
			}
			to := draw(len(texts))
			texts[to] = append(texts[to], text)
			if draw(5) == 0 {
				dead = append(dead, number)
			}
		}
		var parts []Part
		for _, l := range texts {
			parts = append(parts, partOf(l...))
		}
		for _, tokens := range []string{"w0", "w3", "w1 w0", "w2 w7", "w0 w1 w2", "w5 none w4 w0", "w0 w1 w2 w3 w4 w5"} {
			k := 1 + draw(1+draw(30))
			want, rated := answer(parts, tokens, liveBut(dead...), k)
			check(t, parts, tokens, liveBut(dead...), k, want, rated[0])
			for range 2 {
				rates(t, parts, tokens, liveBut(dead...), k, rated[:]...)
			}
			for way := range 3 {
				less[way] += rated[way]
			}
		}
	}
	if less[1] >= less[0] || less[2] >= less[1] {
		t.Errorf("the test draws too little that could be left out: %v are rated", less)
	}
}

// A question leaves the lists that it goes through as they are.
func TestListsAreNotChanged(t *testing.T) {
	part := row(slices.Concat(times(6, "x y"), times(1, "x x x"), times(6, "y"))...)
	lists := map[string]segment.List{"x": part.List("x"), "y": part.List("y")}
	before := fmt.Sprint(lists, part.Documents)
	part.List = func(token string) segment.List { return lists[token] }
	for way := range 3 {
		ask(t, []Part{part}, way, "x y", liveBut(), 2)
	}
	if after := fmt.Sprint(lists, part.Documents); after != before {
		t.Errorf("P7: what is searched was %s, is %s", before, after)
	}
}
