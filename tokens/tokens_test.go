package tokens

import (
	"slices"
	"strings"
	"testing"
	"unicode/utf8"
)

// The letters written out, each under its small form, so that the test does
// not reckon as the program does.
const (
	letters = "0123456789" +
		"ABCDEFGHIJKLMNOPQRSTUVWXYZ" + "abcdefghijklmnopqrstuvwxyz" +
		"ÀÁÂÃÄÅÆÇÈÉÊËÌÍÎÏÐÑÒÓÔÕÖØÙÚÛÜÝÞ" + "ß" + "àáâãäåæçèéêëìíîïðñòóôõöøùúûüýþ" + "ÿ"
	smallForms = "0123456789" +
		"abcdefghijklmnopqrstuvwxyz" + "abcdefghijklmnopqrstuvwxyz" +
		"àáâãäåæçèéêëìíîïðñòóôõöøùúûüýþ" + "ß" + "àáâãäåæçèéêëìíîïðñòóôõöøùúûüýþ" + "ÿ"
)

func check(t *testing.T, text string, want ...string) {
	t.Helper()
	if got := Split(text); !slices.Equal(got, want) {
		t.Errorf("P3: Split(%q) = %q, want %q", text, got, want)
	}
}

func TestEveryCodePoint(t *testing.T) {
	smallOf := map[rune]rune{}
	forms := []rune(smallForms)
	for i, letter := range []rune(letters) {
		smallOf[letter] = forms[i]
	}
	if len(smallOf) != 10+26+26+62 {
		t.Fatalf("the test knows %d letters", len(smallOf))
	}
	for r := rune(0); r <= utf8.MaxRune; r++ {
		form, isOne := smallOf[r]
		if isOne {
			check(t, "7"+string(r)+"8", "7"+string(form)+"8")
		} else {
			check(t, "7"+string(r)+"8", "7", "8")
		}
	}
}

func TestEveryByteAlone(t *testing.T) {
	for b := 0x80; b <= 0xff; b++ {
		check(t, "x"+string([]byte{byte(b)})+"y", "x", "y")
	}
}

func TestWrongEncodings(t *testing.T) {
	check(t, "x\xffy×z", "x", "y", "z")
	check(t, "\xc3")
	check(t, "\xc3x", "x")
	check(t, "x\xc3\xc3\xa9", "x", "é")
	check(t, "\xa9x\xc3", "x")
	check(t, "x\xc1\xa1y", "x", "y")         // "a" in two bytes
	check(t, "x\xe0\x83\xa9y", "x", "y")     // "é" in three bytes
	check(t, "x\xf0\x80\x83\xa9y", "x", "y") // "é" in four bytes
	check(t, "x\xed\xa0\x80y", "x", "y")     // half of a pair
	check(t, "x\xf4\x90\x80\x80y", "x", "y") // above the last code point
	check(t, "x\ufffdy", "x", "y")
}

func TestNoLettersAmongLetters(t *testing.T) {
	check(t, "À×Þ÷ÿ", "à", "þ", "ÿ")
	check(t, "Ö×Ø ö÷ø", "ö", "ø", "ö", "ø")
	check(t, "×÷")
	check(t, "¿Àÿ\u0100", "àÿ")
	check(t, "ªµº")
	check(t, "/09: @AZ[ `az{", "09", "az", "az")
}

func TestRuns(t *testing.T) {
	check(t, "")
	check(t, " \t\n.,")
	check(t, "x", "x")
	check(t, "  x  ", "x")
	check(t, "x_y-z", "x", "y", "z")
	check(t, "b a b B", "b", "b", "b")
	check(t, "x\x00y", "x", "y")
	check(t, "The Quick, quick fox's 3 of ÀÉ!", "quick", "quick", "fox", "s", "3", "àé")
}

func TestCommonWords(t *testing.T) {
	for _, word := range []string{"a", "an", "and", "in", "is", "of", "the", "to"} {
		check(t, word)
		check(t, strings.ToUpper(word))
		check(t, "x "+word+" y", "x", "y")
		check(t, word+"x", word+"x")
		check(t, "x"+word, "x"+word)
		check(t, word+"×"+word)
	}
	check(t, "á ân", "á", "ân")
	check(t, "i o th nd or it", "i", "o", "th", "nd", "or", "it")
}

func TestLongRuns(t *testing.T) {
	check(t, "abcdefghi", "abcdefghi")
	check(t, "abcdefghij", "abcdefghij")
	check(t, "ABCDEFGHIJK", "abcdefghij")
	check(t, "abcdefghijklmnopqrstuvwxyz z", "abcdefghij", "z")
	check(t, "abcdefghij klm", "abcdefghij", "klm")
	check(t, "ÀÁÂÃÄÅÆÇÈÉÊ", "àáâãäåæçèé")
	check(t, "xÀxÀxÀxÀxÀx", "xàxàxàxàxà")
}

func checkToken(t *testing.T, text string, want bool) {
	t.Helper()
	if got := IsToken(text); got != want {
		t.Errorf("P4: IsToken(%q) = %t", text, got)
	}
}

func TestTokensOfEveryCodePoint(t *testing.T) {
	for r := rune(0); r <= utf8.MaxRune; r++ {
		want := strings.ContainsRune(smallForms, r) && r != utf8.RuneError
		checkToken(t, "7"+string(r), want)
		checkToken(t, string(r)+"7", want)
	}
}

func TestTokensAndOthers(t *testing.T) {
	for _, text := range []string{"x", "0", "abcdefghij", "àáâãäåæçèé", "ß", "ÿ", "th", "them", "àn"} {
		checkToken(t, text, true)
	}
	for _, text := range []string{
		"", " ", "x ", " x", "x y", "X", "xY", "À", "abcdefghijk", "àáâãäåæçèéê", strings.Repeat("x", 255),
		"a", "an", "and", "in", "is", "of", "the", "to", "the x", "x the", "the the",
		"\xff", "x\xff", "\xc3", "x\xc3", "\xa0", "×", "÷", "x÷",
	} {
		checkToken(t, text, false)
	}
	for _, token := range Split("The Quick, quick fox's 3 of ÀÉ! abcdefghijklm") {
		checkToken(t, token, true)
	}
}
