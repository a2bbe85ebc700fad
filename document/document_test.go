package document

import (
	"strings"
	"testing"
)

func check(t *testing.T, text string, want bool) {
	t.Helper()
	if got := IsKey(text); got != want {
		t.Errorf("P5: IsKey(%q) = %t", text, got)
	}
}

func TestKeysOfEveryByte(t *testing.T) {
	const right = "abcdefghijklmnopqrstuvwxyz0123456789"
	for b := range 256 {
		one := string([]byte{byte(b)})
		want := strings.Contains(right, one)
		check(t, one, want)
		check(t, one+"abcdefg", want)
		check(t, "abcdefg"+one, want)
		check(t, "0"+one+"9", want)
	}
}

func TestKeysOfEveryLength(t *testing.T) {
	for length := range 300 {
		check(t, strings.Repeat("z", length), length >= 1 && length <= 8)
	}
	check(t, "àààà", false)
	check(t, "abcdefg\xff", false)
}
