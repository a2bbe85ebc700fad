package scout

import (
	"fmt"
	"strings"
	"sync"
	"testing"
)

func add(t *testing.T, e *Engine, key, text string, want Errno) {
	t.Helper()
	if errno := e.Add(key, text); errno != want {
		t.Errorf("P5: Add(%q, %q) = %d, want %d", key, text, errno, want)
	}
}

func remove(t *testing.T, e *Engine, key string, want Errno) {
	t.Helper()
	if errno := e.Delete(key); errno != want {
		t.Errorf("P5: Delete(%q) = %d, want %d", key, errno, want)
	}
}

func count(t *testing.T, e *Engine, want int) {
	t.Helper()
	if n := e.Count(); n != want {
		t.Errorf("P5: Count() = %d, want %d", n, want)
	}
}

// unchanged does something and tells whether the engine is as it was. (A map
// is printed in the order of its keys.)
func unchanged(t *testing.T, e *Engine, do func()) {
	t.Helper()
	before := fmt.Sprintf("%+v", *e)
	do()
	if after := fmt.Sprintf("%+v", *e); after != before {
		t.Errorf("P1: the engine was %s, is %s", before, after)
	}
}

func full(t *testing.T) *Engine {
	t.Helper()
	e := New()
	for i := range 100 {
		add(t, e, fmt.Sprintf("k%d", i), "word", OK)
	}
	return e
}

var wrongKeys = []string{
	"", "abcdefghi", "123456789", "A", "Z", "aB", "a b", " a", "a ", "a-", "a_b", "é", "à",
	"/", ":", "`", "{", "@", "[", "\x00", "a\x00", "\xff", "a\n", strings.Repeat("a", 1000),
}

func TestNewEngineIsEmpty(t *testing.T) {
	e := New()
	if e == nil {
		t.Fatal("P5: no engine")
	}
	count(t, e, 0)
	remove(t, e, "k", ErrNone)
}

func TestKeysOfAllBytes(t *testing.T) {
	for b := range 256 {
		key, want := string([]byte{byte(b)}), ErrKey
		if strings.IndexByte("abcdefghijklmnopqrstuvwxyz0123456789", byte(b)) >= 0 {
			want = OK
		}
		e := New()
		add(t, e, key, "x", want)
		remove(t, e, key, want)
		add(t, e, "abcdefg"+key, "x", want)
		add(t, e, key+"abcdefg", "x", want)
		add(t, e, key+"abcdefgh", "x", ErrKey)
	}
}

func TestWrongKeys(t *testing.T) {
	e := New()
	add(t, e, "a", "x", OK)
	for _, key := range wrongKeys {
		unchanged(t, e, func() {
			add(t, e, key, "x", ErrKey)
			remove(t, e, key, ErrKey)
		})
	}
	count(t, e, 1)
}

func TestTextsOfADocument(t *testing.T) {
	e := New()
	add(t, e, "none", "", OK)
	add(t, e, "marks", "...", OK)
	add(t, e, "broken", "\xff\xfe", OK)
	add(t, e, "bytes", strings.Repeat("x", 200), OK)
	add(t, e, "tokens", strings.Repeat("x ", 40), OK)
	add(t, e, "common", strings.Repeat("x the ", 33), OK)
	add(t, e, "edge", strings.Repeat("x ", 40)+strings.Repeat("to ", 40), OK)
	count(t, e, 7)
	unchanged(t, e, func() {
		add(t, e, "none", strings.Repeat("x", 201), ErrLong)
		add(t, e, "new", strings.Repeat(".", 201), ErrLong)
		add(t, e, "none", strings.Repeat("x ", 41), ErrTokens)
		add(t, e, "new", strings.Repeat("x ", 100), ErrTokens)
	})
}

func TestReplace(t *testing.T) {
	e := New()
	add(t, e, "k", "red", OK)
	add(t, e, "k", "blue", OK)
	add(t, e, "j", "blue", OK)
	count(t, e, 2)
	add(t, e, "k", "", OK)
	count(t, e, 2)
	remove(t, e, "k", OK)
	count(t, e, 1)
	remove(t, e, "k", ErrNone)
	count(t, e, 1)
}

func TestDelete(t *testing.T) {
	e := New()
	add(t, e, "k", "red", OK)
	unchanged(t, e, func() {
		remove(t, e, "j", ErrNone)
		remove(t, e, "kk", ErrNone)
	})
	remove(t, e, "k", OK)
	count(t, e, 0)
	remove(t, e, "k", ErrNone)
	add(t, e, "k", "blue", OK)
	count(t, e, 1)
	remove(t, e, "k", OK)
	count(t, e, 0)
}

func TestFull(t *testing.T) {
	e := full(t)
	count(t, e, 100)
	unchanged(t, e, func() {
		add(t, e, "new", "x", ErrFull)
		add(t, e, "k7", "x", ErrFull)
		add(t, e, "k7", "", ErrFull)
	})
	remove(t, e, "k7", OK)
	add(t, e, "k7", "x", ErrFull)
	count(t, e, 99)
	for i := range 100 {
		e.Delete(fmt.Sprintf("k%d", i))
	}
	count(t, e, 0)
	add(t, e, "k7", "x", ErrFull)
}

func TestReplacedDocumentsCountForFull(t *testing.T) {
	e := New()
	for range 50 {
		add(t, e, "k", "x", OK)
		add(t, e, "j", "x", OK)
		remove(t, e, "j", OK)
	}
	count(t, e, 1)
	add(t, e, "k", "x", ErrFull)
	count(t, e, 1)
}

func TestRefusedDocumentsDoNotCountForFull(t *testing.T) {
	e := New()
	for range 200 {
		add(t, e, "K", "x", ErrKey)
		add(t, e, "k", strings.Repeat("x", 201), ErrLong)
		add(t, e, "k", strings.Repeat("x ", 41), ErrTokens)
	}
	for range 100 {
		add(t, e, "k", "x", OK)
	}
	add(t, e, "k", "x", ErrFull)
}

func TestFirstNamedErrorIsAnswered(t *testing.T) {
	long := strings.Repeat("x ", 101)
	many := strings.Repeat("x ", 41)
	for _, e := range []*Engine{New(), full(t)} {
		unchanged(t, e, func() {
			add(t, e, "", long, ErrKey)
			add(t, e, "K", many, ErrKey)
			add(t, e, "K", "x", ErrKey)
			add(t, e, "k1", long, ErrLong)
			add(t, e, "k1", many, ErrTokens)
		})
	}
}

func TestEnginesAreApart(t *testing.T) {
	a, b := New(), New()
	add(t, a, "k", "red", OK)
	unchanged(t, b, func() {
		add(t, a, "k", "blue", OK)
		remove(t, a, "k", OK)
		for range 98 {
			add(t, a, "j", "blue", OK)
		}
		add(t, a, "j", "blue", ErrFull)
	})
	remove(t, b, "j", ErrNone)
	add(t, b, "k", "red", OK)
	count(t, a, 1)
	count(t, b, 1)
	remove(t, b, "k", OK)
	count(t, a, 1)
}

func TestEnginesSideBySide(t *testing.T) {
	var all sync.WaitGroup
	for i := range 8 {
		all.Go(func() {
			e := New()
			for j := range 100 {
				add(t, e, fmt.Sprintf("k%d", j%(i+1)), "red blue", OK)
			}
			count(t, e, i+1)
		})
	}
	all.Wait()
}

// A long row of calls is held against a plain list of keys.
func TestManyCalls(t *testing.T) {
	keys := []string{"a", "b", "c", "d", "e", "f", "0", "", "no key"}
	texts := []string{"", "red", "red red blue", "Blue green!", strings.Repeat("x ", 41), strings.Repeat("x", 201)}
	for seed := range 200 {
		state := uint32(seed)
		draw := func(n int) int {
			state = state*1664525 + 1013904223
			return int(state>>16) % n
		}
		e, live, added := New(), map[string]int{}, 0
		for range 300 {
			key, text := keys[draw(len(keys))], texts[draw(len(texts))]
			isOne := len(key) == 1
			if draw(3) == 0 {
				want := OK
				if !isOne {
					want = ErrKey
				} else if live[key] == 0 {
					want = ErrNone
				}
				remove(t, e, key, want)
				delete(live, key)
			} else {
				want := OK
				switch {
				case !isOne:
					want = ErrKey
				case len(text) == 201:
					want = ErrLong
				case len(text) == 82:
					want = ErrTokens
				case added == 100:
					want = ErrFull
				default:
					added++
					live[key] = added
				}
				add(t, e, key, text, want)
			}
			count(t, e, len(live))
		}
	}
}

// Every call ends, whatever it is given.
func TestNoCallPanics(t *testing.T) {
	const most = int(^uint(0) >> 1)
	for _, e := range []*Engine{New(), full(t)} {
		for _, s := range append([]string{"red", strings.Repeat("x", 100000)}, wrongKeys...) {
			Tokens(s)
			Open(s)
			for _, n := range []int{-most - 1, -1, 0, 1, 2, 3, most} {
				e.Dump(n)
				e.Search(n, s, n)
				e.Search(0, s, n)
			}
			e.Flush()
			e.Merge()
			e.Segments()
			e.Delete(s)
			e.Add(s, s)
			e.Count()
		}
	}
}
