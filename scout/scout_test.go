package scout

import (
	"strings"
	"testing"
	"time"
)

func TestErrorNumbers(t *testing.T) {
	errnos := []Errno{OK, ErrKey, ErrLong, ErrTokens, ErrFull, ErrNone, ErrTerms, ErrArg, ErrCorrupt}
	for number, errno := range errnos {
		if int(errno) != number {
			t.Errorf("error %d has the number %d", number, errno)
		}
	}
}

func TestTokens(t *testing.T) {
	for _, c := range []struct {
		text, want string
		errno      Errno
	}{
		{"The Quick, quick fox's 3 of ÀÉ!", "quick quick fox s 3 àé", OK},
		{"abcdefghijklm", "abcdefghij", OK},
		{"a AN", "", OK},
		{"x\xffy×z", "x y z", OK},
		{"", "", OK},
		{"x", "x", OK},
		{" x  the  y ", "x y", OK},
		{"ö÷ø", "ö ø", OK},
	} {
		checkTokens(t, c.text, c.want, c.errno)
	}
}

func TestTokensOfLongTexts(t *testing.T) {
	checkTokens(t, strings.Repeat("x", 199), strings.Repeat("x", 10), OK)
	checkTokens(t, strings.Repeat("x", 200), strings.Repeat("x", 10), OK)
	checkTokens(t, strings.Repeat("x", 201), "", ErrLong)
	checkTokens(t, strings.Repeat(" ", 200), "", OK)
	checkTokens(t, strings.Repeat(" ", 201), "", ErrLong)
	checkTokens(t, strings.Repeat("\xff", 201), "", ErrLong)
	// The bound is on bytes, not on letters.
	checkTokens(t, strings.Repeat("é", 100), strings.Repeat("é", 10), OK)
	checkTokens(t, strings.Repeat("é", 100)+"x", "", ErrLong)
	// MaxTokens binds documents, not this call.
	checkTokens(t, strings.Repeat("x ", 100), strings.Repeat("x ", 99)+"x", OK)
}

func checkTokens(t *testing.T, text, want string, errno Errno) {
	t.Helper()
	if got, e := Tokens(text); got != want || e != errno {
		t.Errorf("P3: Tokens(%q) = %q, %d, want %q, %d", text, got, e, want, errno)
	}
}

// Answered by its length, a text costs nothing, however long it is; reading
// through all of these would take well over the time that is allowed here.
func TestTooLongIsToldByLength(t *testing.T) {
	long := strings.Repeat("a", 100_000_000)
	e := New()
	start := time.Now()
	for range 1000 {
		if s, errno := Tokens(long); s != "" || errno != ErrLong {
			t.Fatalf("P1: Tokens = %.40q, %d", s, errno)
		}
		if s, errno := Open(long); s != "" || errno != ErrLong {
			t.Fatalf("P1: Open = %.40q, %d", s, errno)
		}
		if errno := e.Add("k", long); errno != ErrLong {
			t.Fatalf("P1: Add = %d", errno)
		}
		if errno := e.Add(long, ""); errno != ErrKey {
			t.Fatalf("P1: Add = %d", errno)
		}
		if errno := e.Delete(long); errno != ErrKey {
			t.Fatalf("P1: Delete = %d", errno)
		}
		if s, n, errno := e.Search(0, long, 1); s != "" || n != 0 || errno != ErrLong {
			t.Fatalf("P1: Search = %.40q, %d, %d", s, n, errno)
		}
		if time.Since(start) > 10*time.Second {
			t.Fatal("P1: a text that is too long is worked on")
		}
	}
}
