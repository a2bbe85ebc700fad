package search

import (
	"fmt"
	"runtime"
	"slices"
	"strings"
	"testing"
	"time"

	"scout/document"
	"scout/segment"
)

// partOf makes a part of texts with their numbers; the key of each is its number
// behind a k.
func partOf(texts ...string) Part {
	var part Part
	places := map[string][]segment.Place{}
	for ordinal, text := range texts {
		fields := strings.Fields(text)
		d := document.Document{Key: "k" + fields[0], Length: len(fields) - 1}
		fmt.Sscan(fields[0], &d.Number)
		part.Documents = append(part.Documents, d)
		words := slices.Sorted(slices.Values(fields[1:]))
		for _, word := range slices.Compact(slices.Clone(words)) {
			count := 0
			for _, w := range words {
				if w == word {
					count++
				}
			}
			places[word] = append(places[word], segment.Place{Ordinal: ordinal, Count: count})
		}
	}
	part.List = func(token string) segment.List {
		return segment.ListOf(token, places[token], part.Documents)
	}
	return part
}

// liveBut makes all documents live but those with these numbers.
func liveBut(dead ...int) func(document.Document) bool {
	return func(d document.Document) bool { return !slices.Contains(dead, d.Number) }
}

// ask asks by a way for the best k, and tells them as P7 does.
func ask(t *testing.T, parts []Part, way int, tokens string, isLive func(document.Document) bool, k int) (string, int) {
	t.Helper()
	hits, rated := Best(parts, isLive, Question{Way: way, Tokens: strings.Fields(tokens), Most: k})
	var told []string
	for _, hit := range hits {
		told = append(told, fmt.Sprintf("%s=%d", hit.Key, hit.Worth))
		if hit.Key != fmt.Sprintf("k%d", hit.Number) {
			t.Errorf("P7: the number of %s is %d", hit.Key, hit.Number)
		}
	}
	return strings.Join(told, ","), rated
}

// check asks by all ways; way 0 rates as many documents as are told, the others
// no more than the one ahead.
func check(t *testing.T, parts []Part, tokens string, isLive func(document.Document) bool, k int, want string, rated int) {
	t.Helper()
	most := rated
	for way := range 3 {
		s, n := ask(t, parts, way, tokens, isLive, k)
		if s != want || n > most || n < 0 || (way == 0 && n != rated) {
			t.Errorf("P7: by way %d the best %d for %q: %q, %d, want %q, at most %d", way, k, tokens, s, n, want, most)
		}
		most = n
	}
}

// The document's example, spread in every way over parts.
func spreads() [][]Part {
	return [][]Part{
		{partOf("1 red red blue", "2 blue", "3 green")},
		{partOf(), partOf("1 red red blue", "2 blue", "3 green")},
		{partOf("1 red red blue", "2 blue", "3 green"), partOf()},
		{partOf("1 red red blue"), partOf("2 blue", "3 green")},
		{partOf("2 blue", "3 green"), partOf("1 red red blue")},
		{partOf("3 green"), partOf("1 red red blue"), partOf("2 blue")},
		{partOf("1 red red blue", "3 green"), partOf("2 blue")},
	}
}

func TestExample(t *testing.T) {
	const most = int(^uint(0) >> 1)
	for _, parts := range spreads() {
		all := liveBut()
		check(t, parts, "red", all, 9, "k1=25083960", 1)
		check(t, parts, "blue", all, 9, "k2=11988774,k1=7554528", 2)
		check(t, parts, "blue", all, most, "k2=11988774,k1=7554528", 2)
		check(t, parts, "blue", all, 2, "k2=11988774,k1=7554528", 2)
		check(t, parts, "blue", all, 1, "k2=11988774", 2)
		check(t, parts, "blue", all, 0, "", 0)
		check(t, parts, "blue", all, -1, "", 0)
		check(t, parts, "blue", all, -most-1, "", 0)
		check(t, parts, "red blue", all, 1, "k1=32638488", 2)
		check(t, parts, "red blue green", all, 9, "k1=32638488,k3="+fmt.Sprint(341*78358)+",k2=11988774", 3)
		check(t, parts, "yellow", all, 9, "", 0)
		check(t, parts, "yellow blue", all, 9, "k2=11988774,k1=7554528", 2)
		check(t, parts, "", all, 9, "", 0)
	}
}

// Documents that are live no more are no hits, are not rated, and do not count
// for the worth of others.
func TestDeadDocuments(t *testing.T) {
	for _, c := range [][]Part{
		{partOf("1 red red blue", "2 blue", "3 green", "4 red", "5 blue blue red green")},
		{partOf("4 red", "5 blue blue red green"), partOf("1 red red blue", "2 blue", "3 green")},
		{partOf("1 red red blue", "4 red"), partOf("2 blue"), partOf("3 green", "5 blue blue red green")},
	} {
		check(t, c, "red", liveBut(4, 5), 9, "k1=25083960", 1)
		check(t, c, "blue", liveBut(4, 5), 9, "k2=11988774,k1=7554528", 2)
		check(t, c, "red blue green", liveBut(1, 2, 3, 4, 5), 9, "", 0)
		check(t, c, "red blue green", liveBut(1, 2, 3, 4, 5), 1, "", 0)
	}
	check(t, []Part{partOf("1 red", "2", "3 blue red")}, "red blue", liveBut(1, 3), 9, "", 0)
}

func TestNothingToSearch(t *testing.T) {
	check(t, nil, "red", liveBut(), 9, "", 0)
	check(t, []Part{partOf()}, "red", liveBut(), 9, "", 0)
	check(t, []Part{partOf("1"), partOf("2")}, "red", liveBut(), 9, "", 0)
}

// Of the same worth the lower number comes first, wherever it lies.
func TestTies(t *testing.T) {
	for _, parts := range [][]Part{
		{partOf("1 x y", "2 y x", "3 x y", "4 x y")},
		{partOf("4 x y"), partOf("3 x y"), partOf("2 y x"), partOf("1 x y")},
		{partOf("2 x y", "4 x y"), partOf("1 x y", "3 x y")},
	} {
		for k := 1; k <= 4; k++ {
			for way := range 3 {
				hits, rated := Best(parts, liveBut(), Question{Way: way, Tokens: []string{"x"}, Most: k})
				if len(hits) != k || rated != 4 {
					t.Fatalf("P7: by way %d %d hits, %d rated, want %d, 4", way, len(hits), rated, k)
				}
				for i, hit := range hits {
					if hit.Number != i+1 || hit.Worth != hits[0].Worth {
						t.Errorf("P7: by way %d the hit %d is %v", way, i, hit)
					}
				}
			}
		}
	}
}

// Where so many documents have a token that it weighs nothing, they are rated but
// are no hits.
func TestWorthNothing(t *testing.T) {
	var texts []string
	for i := range 5000 {
		texts = append(texts, fmt.Sprint(i+1, " x"))
	}
	check(t, []Part{partOf(texts...)}, "x", liveBut(), 9, "", 5000)
}

// Whoever sends needs nobody who takes: there is room for all. It sends the best
// first, and closes.
func TestSend(t *testing.T) {
	part := partOf("1 x y y", "2 x", "3 z", "4 x x x", "5 x", "6 y")
	tokens := []string{"x", "y"}
	r := raterFor([]Part{part}, liveBut(5), tokens)
	for way := range 3 {
		stream := make(chan Hit, len(part.Documents))
		rated := newWalk(r, part, Question{Way: way, Tokens: tokens, Most: 4}).send(stream)
		var hits []Hit
		for hit := range stream {
			hits = append(hits, hit)
		}
		if rated != 4 || len(hits) != 4 || !slices.IsSortedFunc(hits, compareHits) {
			t.Errorf("Ways: by way %d %d rated, sent %v", way, rated, hits)
		}
	}
}

func streamOf(worths ...int) <-chan Hit {
	stream := make(chan Hit, len(worths))
	for i, worth := range worths {
		stream <- Hit{Number: i, Worth: worth}
	}
	close(stream)
	return stream
}

// Who has enough leaves the rest where it is.
func TestStreamsAreLeftEarly(t *testing.T) {
	long, short := streamOf(9, 7, 5, 4, 3, 2), streamOf(8, 1, 1, 1)
	best := takeBest([]<-chan Hit{streamOf(), long, short}, 3)
	if fmt.Sprint(best) != "[{0  9} {0  8} {1  7}]" {
		t.Errorf("Ways: the best are %v", best)
	}
	if len(long) < 3 || len(short) < 2 {
		t.Errorf("Ways: %d and %d hits are left", len(long), len(short))
	}
}

func TestStreamsToTheirEnds(t *testing.T) {
	best := takeBest([]<-chan Hit{streamOf(3), streamOf(), streamOf(4, 2, 1)}, 100)
	if fmt.Sprint(best) != "[{0  4} {0  3} {1  2} {2  1}]" {
		t.Errorf("Ways: the best are %v", best)
	}
}

// Though one hit is enough, the answer waits for whoever still sends: what was
// rated is known at the end alone.
func TestWaitsForWhoStillSends(t *testing.T) {
	var texts []string
	for i := range 5000 {
		texts = append(texts, fmt.Sprint(2*i+1, " x"), fmt.Sprint(2*i+2, " y"))
	}
	parts := []Part{partOf(texts...), partOf("10001 x")}
	for i := range 30 {
		hits, rated := Best(parts, liveBut(), Question{Way: i % 3, Tokens: []string{"x"}, Most: 1})
		if len(hits) != 1 || hits[0].Number != 1 || rated != 5001 {
			t.Fatalf("P7: by way %d found %v, %d rated", i%3, hits, rated)
		}
	}
}

func TestAllGoroutinesHaveEnded(t *testing.T) {
	var parts []Part
	for i := range 100 {
		parts = append(parts, partOf(fmt.Sprint(i+1, " x y"), fmt.Sprint(i+101, " x")))
	}
	before := runtime.NumGoroutine()
	for k := range 30 {
		hits, rated := Best(parts, liveBut(), Question{Way: k % 3, Tokens: []string{"x", "y"}, Most: k})
		if len(hits) != k || rated > 200 || (k%3 == 0 && rated != min(k, 1)*200) {
			t.Fatalf("P7: by way %d %d hits, %d rated", k%3, len(hits), rated)
		}
	}
	// One that has said that it is done may still be on its way out.
	for range 1000 {
		if runtime.NumGoroutine() <= before {
			return
		}
		time.Sleep(time.Millisecond)
	}
	t.Errorf("Ways: %d goroutines, %d before", runtime.NumGoroutine(), before)
}
