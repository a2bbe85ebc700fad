package segment

import (
	"errors"
	"fmt"
	"strings"
	"testing"
)

func TestReadExample(t *testing.T) {
	c, err := Read(sealed(three))
	if err != nil || fmt.Sprint(c) != fmt.Sprint(threeContent()) {
		t.Errorf("P4: Read = %v, %v", c, err)
	}
}

// refused tells whether a text is refused for this reason, at this byte, in
// these parts, and nothing else is answered.
func refused(t *testing.T, text string, want error, at int, parts string) {
	t.Helper()
	c, err := Read(text)
	var place *AtByte
	switch {
	case !errors.Is(err, want):
		t.Errorf("P4: Read(%.80q) = %v, want %v", text, err, want)
	case !errors.As(err, &place) || place.Byte != at:
		t.Errorf("P4: Read(%.80q) = %v, want it at byte %d", text, err, at)
	case partsOf(err) != parts:
		t.Errorf("P4: Read(%.80q) = %v, want it in %s", text, err, parts)
	case c.Documents != nil || c.Lists != nil:
		t.Errorf("P4: Read(%.80q) = %v beside an error", text, c)
	}
}

func partsOf(err error) string {
	var names []string
	var part *InPart
	for errors.As(err, &part) {
		names = append(names, part.Part)
		err = part.Err
	}
	return strings.Join(names, "/")
}

// turned tells the example's body with one thing put for another.
func turned(t *testing.T, old, by string) string {
	t.Helper()
	if strings.Count(three, old) != 1 {
		t.Fatalf("the example has %q %d times", old, strings.Count(three, old))
	}
	return sealed(strings.Replace(three, old, by, 1))
}

func TestReadWrongMark(t *testing.T) {
	refused(t, "", ErrEnds, 0, "mark")
	refused(t, "S", ErrEnds, 0, "mark")
	refused(t, "SG", ErrEnds, 2, "documents")
	for _, mark := range []string{"SH", "sG", "Sg", "GS", "\x00\x00"} {
		refused(t, turned(t, "SG", mark), ErrForm, 0, "mark")
	}
}

func TestReadWrongDocuments(t *testing.T) {
	refused(t, sealed("SG\x00\x00"), ErrBound, 2, "documents")
	refused(t, turned(t, "SG\x03", "SG\x65"), ErrBound, 2, "documents")
	refused(t, turned(t, "SG\x03", "SG\x80\x01"), ErrBound, 2, "documents")
	refused(t, turned(t, "SG\x03", "SG\x83\x00"), ErrForm, 2, "documents")
	refused(t, turned(t, "SG\x03", "SG\x83\x80\x00"), ErrBound, 2, "documents")
	refused(t, turned(t, "SG\x03", "SG"+strings.Repeat("\xff", 1000)), ErrBound, 2, "documents")
	refused(t, turned(t, "SG\x03\x01", "SG\x03\x00"), ErrBound, 3, "documents/document 0")
	refused(t, turned(t, "SG\x03\x01", "SG\x03\x65"), ErrBound, 3, "documents/document 0")
	refused(t, turned(t, "k1\x01", "k1\x00"), ErrBound, 8, "documents/document 1")
	refused(t, turned(t, "k1\x01", "k1\x64"), ErrBound, 8, "documents/document 1")
	refused(t, turned(t, "k1\x01", "k1\x63"), ErrBound, 13, "documents/document 2")
	refused(t, turned(t, "k2\x01", "k2\x81\x00"), ErrForm, 13, "documents/document 2")
	refused(t, turned(t, "\x01\x03\x02k1", "\x01\x29\x02k1"), ErrBound, 4, "documents/document 0")
	refused(t, turned(t, "\x01\x03\x02k1", "\x01\x83\x00\x02k1"), ErrForm, 4, "documents/document 0")
}

func TestReadNumbersAtTheEdge(t *testing.T) {
	for _, text := range []string{
		turned(t, "k2\x01", "k2\x62"),
		turned(t, "SG\x03\x01", "SG\x03\x62"),
		sealed("SG\x01\x64\x00\x08abcdefgh\x00"),
		sealed("SG\x01\x01\x28\x01k\x01\x01x\x01\x00\x28\x28\x00\x27"),
	} {
		if c, err := Read(text); err != nil || written(c) != text {
			t.Errorf("P4: Read(%q) = %v, %v", text, c, err)
		}
	}
}

func TestReadWrongKeys(t *testing.T) {
	for _, key := range []string{
		"\x00", "\x02K2", "\x02k ", "\x02k\x00", "\x01\xff", "\x02\xc3\xa0", "\x09abcdefghi", "\x02k1", "\x01-",
	} {
		refused(t, turned(t, "\x02k2", key), ErrName, 10, "documents/document 1")
	}
	refused(t, turned(t, "\x02k3", "\x02k1"), ErrName, 15, "documents/document 2")
	refused(t, turned(t, "\x02k3", "\x02k2"), ErrName, 15, "documents/document 2")
	refused(t, turned(t, "\x02k3", "\xffk3"), ErrEnds, 16, "documents/document 2")
	refused(t, turned(t, "\x02k3", "\x00"), ErrName, 15, "documents/document 2")
}

func TestReadWrongTokens(t *testing.T) {
	for _, token := range []string{
		"\x00", "\x04blUe", "\x04bl e", "\x02an", "\x03and", "\x01a", "\x04ble\xff", "\x02\xc3\x97", "\x02\xc3\xb7",
		"\x02\xc3\x80", "\x0babcdefghijk", "\x04b\xc3ue", "\x01\xe0",
	} {
		refused(t, turned(t, "\x04blue", token), ErrName, 19, "tokens/token 0")
	}
	for _, token := range []string{"\x04blue", "\x04blud", "\x03blu", "\x010", "\x04blua"} {
		refused(t, turned(t, "\x05green", token), ErrName, 32, "tokens/token 1")
	}
	refused(t, turned(t, "\x03red", "\x03the"), ErrName, 44, "tokens/token 2")
	refused(t, turned(t, "\x03red", "\xffred"), ErrEnds, 45, "tokens/token 2")
	refused(t, turned(t, "k3\x03", "k3\xa1\x1f"), ErrBound, 18, "tokens")
	refused(t, turned(t, "k3\x03", "k3\x83\x00"), ErrForm, 18, "tokens")
	refused(t, turned(t, "k3\x03", "k3\x02"), ErrSum, 44, "lengths/document 0")
	refused(t, turned(t, "k3\x03", "k3\x00"), ErrSum, 19, "lengths/document 0")
}

func TestReadTokensAtTheEdge(t *testing.T) {
	for _, token := range []string{"\x01b", "\x0aabcdefghij", "\x05bluez", "\x02ab", "\x010", "\x0a0123456789"} {
		text := turned(t, "\x04blue", token)
		if c, err := Read(text); err != nil || c.Lists[0].Token != token[1:] {
			t.Errorf("P4: Read(%q) = %v, %v", text, c, err)
		}
	}
	for _, token := range []string{"ÿ", "ß", "éééééééééé", "thé"} {
		text := turned(t, "\x03red", string([]byte{byte(len(token))})+token)
		if c, err := Read(text); err != nil || c.Lists[2].Token != token {
			t.Errorf("P4: Read(%q) = %v, %v", text, c, err)
		}
	}
}

// The number of tokens is the only one that may take two bytes.
func TestReadEveryNumberOfTokens(t *testing.T) {
	for tokens := range 400 {
		models := []model{{number: 1, key: "k1"}}
		for i := range tokens {
			if i > 0 && i%40 == 0 {
				models = append(models, model{number: len(models) + 1, key: fmt.Sprintf("k%d", len(models)+1)})
			}
			models[len(models)-1].words += fmt.Sprintf(" %03d", i)
		}
		checkSame(t, contentOf(models...))
	}
}

func TestReadWrongLists(t *testing.T) {
	const inBlue, inRed = "tokens/token 0/block 0", "tokens/token 2/block 0"
	refused(t, turned(t, "blue\x02", "blue\x00"), ErrBound, 24, "tokens/token 0")
	refused(t, turned(t, "blue\x02", "blue\x04"), ErrBound, 24, "tokens/token 0")
	refused(t, turned(t, "blue\x02", "blue\x82\x00"), ErrForm, 24, "tokens/token 0")
	refused(t, turned(t, "blue\x02\x01", "blue\x02\x03"), ErrBound, 25, inBlue)
	refused(t, turned(t, "blue\x02\x01", "blue\x02\x02"), ErrSum, 25, inBlue)
	refused(t, turned(t, "blue\x02\x01", "blue\x02\x00"), ErrSum, 25, inBlue)
	refused(t, turned(t, "blue\x02\x01", "blue\x02\x81\x00"), ErrForm, 25, inBlue)
	refused(t, turned(t, "blue\x02\x01\x01", "blue\x02\x01\x00"), ErrBound, 26, inBlue)
	refused(t, turned(t, "blue\x02\x01\x01", "blue\x02\x01\x02"), ErrSum, 25, inBlue)
	refused(t, turned(t, "blue\x02\x01\x01", "blue\x02\x01\x29"), ErrBound, 26, inBlue)
	refused(t, turned(t, "blue\x02\x01\x01\x01", "blue\x02\x01\x01\x00"), ErrBound, 27, inBlue)
	refused(t, turned(t, "blue\x02\x01\x01\x01", "blue\x02\x01\x01\x02"), ErrSum, 25, inBlue)
	refused(t, turned(t, "blue\x02\x01\x01\x01\x00", "blue\x02\x01\x01\x01\x02"), ErrBound, 28, inBlue)
	refused(t, turned(t, "blue\x02\x01\x01\x01\x00", "blue\x02\x01\x01\x01\x64"), ErrBound, 28, inBlue)
	refused(t, turned(t, "blue\x02\x01\x01\x01\x00", "blue\x02\x01\x01\x01\x80\x00"), ErrForm, 28, inBlue)
	refused(t, turned(t, "red\x01\x00\x02\x03\x00\x01", "red\x01\x00\x02\x03\x00\x28"), ErrBound, 53, inRed)
	refused(t, turned(t, "red\x01\x00\x02\x03\x00\x01", "red\x01\x00\x02\x03\x00\x02"), ErrSum, 49, inRed)
	refused(t, turned(t, "red\x01\x00\x02\x03\x00\x01", "red\x01\x00\x02\x03\x00\x81\x00"), ErrForm, 53, inRed)
	refused(t, turned(t, "red\x01\x00\x02\x03\x00\x01", "red\x01\x00\x01\x03\x00\x00"), ErrSum, 54, "lengths/document 0")
	refused(t, turned(t, "red\x01\x00\x02\x03\x00\x01", "red\x01\x00\x03\x03\x00\x02"), ErrSum, 54, "lengths/document 0")
	refused(t, turned(t, "k1\x01\x01", "k1\x01\x02"), ErrSum, 25, inBlue)
	refused(t, sealed("SG\x01\x64\x05\x08abcdefgh\x00"), ErrSum, 15, "lengths/document 0")
	const longer = "SG\x02\x01\x01\x01a\x01\x02\x01b\x02\x01x\x01\x00\x01\x01\x00\x00\x01y\x01\x01\x01\x02\x01\x00"
	refused(t, sealed(longer), ErrSum, 28, "lengths/document 1")
}

// packedBody has six documents with x: a packed block and one of two.
func packedBody() (docs, x string) {
	docs = "SG\x06\x01\x01\x01a\x01\x01\x01b\x01\x03\x01c\x01\x01\x01d\x01\x01\x01e\x01\x02\x01f\x01\x01x\x06"
	return docs, "\x03\x03\x01" + "\x00\x02" + "\x20" + "\x05\x02\x01" + "\x00\x00\x00\x01"
}

func TestReadWrongPackedBlocks(t *testing.T) {
	docs, x := packedBody()
	if c, err := Read(sealed(docs + x)); err != nil || fmt.Sprint(c.Lists) != "[{x [{0 1} {1 1} {2 3} {3 1} {4 1} {5 2}] [{3 3 1} {5 2 1}]}]" {
		t.Fatalf("P4: Read = %v, %v", c, err)
	}
	from := len(docs)
	const first, second = "tokens/token 0/block 0", "tokens/token 0/block 1"
	for _, c := range []struct {
		at    int
		old   string
		by    string
		want  error
		where int
		parts string
	}{
		{3, "\x00\x02\x20", "\x01\x02\x00\x20", ErrForm, 5, first},         // a step's width that is too great
		{3, "\x00\x02\x20", "\x00\x03\x80\x00", ErrForm, 5, first},         // a count's width that is too great
		{3, "\x00\x02\x20", "\x00\x01\x20", ErrForm, 5, first},             // one that is too small
		{3, "\x00\x02\x20", "\x00\x03\x80\x10", ErrForm, 5, first},         // noughts that are none
		{3, "\x00\x02\x20", "\x00\x08\x00\x00\x02\x00", ErrForm, 5, first}, // the greatest width
		{3, "\x00\x02\x20", "\x00\x09\x20", ErrBound, 4, first},            // one that is above it
		{3, "\x00\x02\x20", "\x09\x02\x20", ErrBound, 3, first},
		{3, "\x00\x02\x20", "\xff\x02\x20", ErrBound, 3, first},
		{3, "\x00\x02\x20", "\x80\x00\x02\x20", ErrBound, 3, first},                 // it is a byte, no varint
		{3, "\x00\x02\x20", "\x01\x02\x08\x20", ErrSum, 0, first},                   // a step that is too great
		{3, "\x00\x02\x20", "\x02\x02\xc0\x20", ErrBound, 3, first},                 // one that leads out of the documents
		{3, "\x00\x02\x20", "\x08\x02\x80\x00\x00\x00\x20", ErrBound, 3, first},     // and far out
		{0, "\x03\x03\x01\x00\x02\x20", "\x03\x04\x01\x00\x02\x30", ErrSum, 21, ""}, // counts that are too great
		{0, "\x03\x03\x01", "\x03\x02\x01", ErrSum, 0, first},
		{0, "\x03\x03\x01", "\x04\x03\x01", ErrSum, 0, first},
		{0, "\x03\x03\x01", "\x03\x03\x02", ErrSum, 0, first},
		{6, "\x05\x02\x01", "\x04\x02\x01", ErrSum, 6, second},
		{6, "\x05\x02\x01", "\x05\x01\x01", ErrSum, 6, second},
		{6, "\x05\x02\x01", "\x05\x02\x02", ErrSum, 6, second},
		{6, "\x05\x02\x01\x00", "\x05\x02\x01\x01", ErrBound, 9, second},
	} {
		if x[c.at:c.at+len(c.old)] != c.old {
			t.Fatalf("%q is not at %d", c.old, c.at)
		}
		if c.parts == "" {
			c.where, c.parts = len(x), "lengths/document 2"
		}
		refused(t, sealed(docs+x[:c.at]+c.by+x[c.at+len(c.old):]), c.want, from+c.where, c.parts)
	}
}

func TestReadWrongCheckAndEnd(t *testing.T) {
	good := sealed(three)
	refused(t, three, ErrEnds, 54, "check")
	refused(t, good[:len(good)-1], ErrEnds, 54, "check")
	refused(t, good+"\x00", ErrRest, 58, "end")
	refused(t, good+good, ErrRest, 58, "end")
	refused(t, sealed(three+"\x00"), ErrSum, 54, "check")
	refused(t, "\x00"+good, ErrForm, 0, "mark")
	for i := range 4 {
		b := []byte(good)
		b[54+i]++
		refused(t, string(b), ErrSum, 54, "check")
	}
	refused(t, strings.Replace(good, "red", "rad", 1), ErrSum, 54, "check")
}

func TestReadTooLong(t *testing.T) {
	for _, size := range []int{60001, 100000} {
		c, err := Read(strings.Repeat("S", size))
		var place *AtByte
		if err != ErrLong || errors.As(err, &place) || c.Documents != nil || c.Lists != nil {
			t.Errorf("P4: Read of %d bytes = %v, %v", size, c, err)
		}
	}
	refused(t, strings.Repeat("S", 60000), ErrForm, 0, "mark")
	good := sealed(three)
	refused(t, good+strings.Repeat("\x00", 60000-len(good)), ErrRest, 58, "end")
}

// isFixed tells whether an error is one of the fixed ones, with its place.
func isFixed(err error) bool {
	var place *AtByte
	var part *InPart
	if !errors.As(err, &place) || !errors.As(err, &part) || place.Byte < 0 || part.Part == "" {
		return false
	}
	for _, fixed := range []error{ErrEnds, ErrRest, ErrForm, ErrBound, ErrName, ErrSum} {
		if errors.Is(err, fixed) {
			return true
		}
	}
	return false
}

// checkAny tells whether Read does with some text as it should: what it takes is
// right and is written in the one right way; what it refuses it gives a reason for.
func checkAny(t *testing.T, text string) {
	t.Helper()
	c, err := Read(text)
	if err == nil {
		if wrong := complaint(c); wrong != "" {
			t.Fatalf("P4: Read(%q) = %v, but for its %s", text, c, wrong)
		}
		if written(c) != text {
			t.Fatalf("P4: Read(%q) = %v, which is written %q", text, c, written(c))
		}
		return
	}
	if !isFixed(err) {
		t.Fatalf("P4: Read(%q) = %v: no reason or no place", text, err)
	}
}

func smallBodies() []string {
	docs, x := packedBody()
	wide := written(contentOf(spread(3, 5, 2)...))
	two := written(contentOf(model{3, "b", "é é x"}, model{99, "a", "x"}, model{100, "abcdefgh", ""}))
	return []string{three, docs + x, wide[:len(wide)-4], two[:len(two)-4], "SG\x01\x01\x00\x01k\x00"}
}

// Each byte is turned into each other, with the check as it must be then: only
// what is a segment again may be read.
func TestReadEveryByteTurned(t *testing.T) {
	for _, body := range smallBodies() {
		for i := range len(body) {
			for by := range 256 {
				b := []byte(body)
				b[i] = byte(by)
				checkAny(t, sealed(string(b)))
			}
		}
	}
}

func TestReadBytesLeftOutOrPutIn(t *testing.T) {
	for _, body := range smallBodies() {
		good := sealed(body)
		for i := range len(good) {
			if _, err := Read(good[:i]); !isFixed(err) || !errors.Is(err, ErrEnds) {
				t.Errorf("P4: Read of the first %d bytes of %q: %v", i, good, err)
			}
		}
		for i := range len(body) {
			checkAny(t, sealed(body[:i]))
			checkAny(t, sealed(body[i:]))
			checkAny(t, sealed(body[:i]+body[i+1:]))
			for by := range 256 {
				checkAny(t, sealed(body[:i]+string([]byte{byte(by)})+body[i:]))
			}
		}
	}
}

// Two or three bytes of a greater segment are turned.
func TestReadManyTurned(t *testing.T) {
	var bodies []string
	for seed := range 20 {
		good := written(drawn(seed))
		bodies = append(bodies, good[:len(good)-4])
	}
	for seed := range 5000 {
		d := drawer(seed)
		b := []byte(bodies[d.below(len(bodies))])
		for range 1 + d.below(3) {
			b[d.below(len(b))] = byte(d.below(1 << (1 + d.below(8))))
		}
		checkAny(t, sealed(string(b)))
	}
}

func FuzzRead(f *testing.F) {
	for _, body := range smallBodies() {
		f.Add(body)
	}
	f.Fuzz(func(t *testing.T, body string) {
		if len(body) < MaxBytes-4 {
			checkAny(t, body)
			checkAny(t, sealed(body))
		}
	})
}
