package segment

import (
	"fmt"
	"strings"
	"testing"
)

// three is the body of the document's example.
const three = "SG\x03\x01\x03\x02k1\x01\x01\x02k2\x01\x01\x02k3\x03" +
	"\x04blue\x02\x01\x01\x01\x00\x00\x00\x00" + "\x05green\x01\x02\x01\x01\x02\x00" + "\x03red\x01\x00\x02\x03\x00\x01"

func threeContent() Content {
	return contentOf(model{1, "k1", "red red blue"}, model{2, "k2", "blue"}, model{3, "k3", "green"})
}

func checkWrite(t *testing.T, c Content, want string) {
	t.Helper()
	if got := Write(c); got != want {
		t.Errorf("P6: Write(%v) = %q, want %q", c, got, want)
	}
}

func TestWriteExample(t *testing.T) {
	checkWrite(t, threeContent(), sealed(three))
}

func TestWriteWithoutTokens(t *testing.T) {
	checkWrite(t, contentOf(model{100, "abcdefgh", ""}), sealed("SG\x01\x64\x00\x08abcdefgh\x00"))
}

func TestWriteCheck(t *testing.T) {
	const body = "SG\x01\x01\x00\x01k\x00"
	if got := checkOf(""); got != "\xc5\x9d\x1c\x81" {
		t.Errorf("P6: the check of nothing = %x", got)
	}
	if got := checkOf("a"); got != "\x2c\x29\x0c\xe4" {
		t.Errorf("P6: the check of one byte = %x", got)
	}
	checkWrite(t, contentOf(model{1, "k", ""}), body+checkOf(body))
}

// Four documents make a packed block, five one more of pairs.
func TestWriteBlocks(t *testing.T) {
	row := []model{{1, "a", "x"}, {2, "b", "y"}, {3, "c", "x x x"}, {4, "d", "x y"}, {7, "e", "x x x x x"}, {9, "f", "x"}}
	head := "\x01x"
	for _, c := range []struct {
		documents int
		want      string
	}{
		{1, "SG\x01\x01\x01\x01a\x01" + head + "\x01\x00\x01\x01\x00\x00"},
		{3, "SG\x03\x01\x01\x01a\x01\x01\x01b\x01\x03\x01c\x02" + head + "\x02\x02\x03\x01\x00\x00\x01\x02\x01y\x01\x01\x01\x01\x01\x00"},
		{5, "SG\x05\x01\x01\x01a\x01\x01\x01b\x01\x03\x01c\x01\x02\x01d\x03\x05\x01e\x02" + head + "\x04\x04\x05\x01\x01\x03\x02\x10\x08\x01y\x02\x03\x01\x01\x01\x00\x01\x00"},
		{6, "SG\x06\x01\x01\x01a\x01\x01\x01b\x01\x03\x01c\x01\x02\x01d\x03\x05\x01e\x02\x01\x01f\x02" + head + "\x05\x04\x05\x01\x01\x03\x02\x10\x08\x05\x01\x01\x00\x00\x01y\x02\x03\x01\x01\x01\x00\x01\x00"},
	} {
		checkWrite(t, contentOf(row[:c.documents]...), sealed(c.want))
	}
}

// All widths that there can be: steps of 0 to 7 bits, counts of 0 to 6.
func TestWriteWidths(t *testing.T) {
	for _, step := range []int{0, 1, 2, 3, 4, 7, 8, 15, 16, 31, 32, 63, 64, 96} {
		for _, count := range []int{1, 2, 3, 4, 5, 8, 9, 16, 17, 32, 33, 40} {
			for at := range 4 {
				checkSame(t, contentOf(spread(step, count, at)...))
			}
		}
	}
}

// spread tells documents of which four have x; ahead of that with the index at
// there is a step, and it has a count, both given.
func spread(step, count, at int) []model {
	var models []model
	put := func(words string) {
		models = append(models, model{len(models) + 1, fmt.Sprintf("k%d", len(models)), words})
	}
	for i := range 4 {
		if i != at {
			put("x")
			continue
		}
		for range step {
			put("")
		}
		put(strings.Repeat("x ", count))
	}
	return models
}

func checkSame(t *testing.T, c Content) {
	t.Helper()
	if wrong := complaint(c); wrong != "" {
		t.Fatalf("the test made a content that cannot be: %s", wrong)
	}
	want := written(c)
	checkWrite(t, c, want)
	got, err := Read(want)
	if err != nil || fmt.Sprint(got) != fmt.Sprint(c) {
		t.Errorf("P4: Read(%q) = %v, %v, want %v", want, got, err, c)
	}
}

func TestWriteAndReadMany(t *testing.T) {
	for seed := range 500 {
		checkSame(t, drawn(seed))
	}
}

// As many documents, tokens and bytes as there can be in an engine.
func TestWriteAndReadGreatest(t *testing.T) {
	var models []model
	for i := range 100 {
		m := model{number: i + 1, key: fmt.Sprintf("%08d", i)}
		for j := range 40 {
			m.words += fmt.Sprintf(" %04d", 40*i+j)
		}
		models = append(models, m)
	}
	c := contentOf(models...)
	checkSame(t, c)
	if len(c.Lists) != 4000 {
		t.Errorf("the test made %d tokens", len(c.Lists))
	}
}

func TestVarints(t *testing.T) {
	for number, want := range map[int]string{
		0: "\x00", 1: "\x01", 127: "\x7f", 128: "\x80\x01", 255: "\xff\x01", 256: "\x80\x02",
		4000: "\xa0\x1f", 16383: "\xff\x7f", 16384: "\x80\x80\x01", 1 << 21: "\x80\x80\x80\x01",
	} {
		if got := string(appendVarint(nil, number)); got != want {
			t.Errorf("P6: the varint of %d = %x, want %x", number, got, want)
		}
	}
}

func TestListsOfTokens(t *testing.T) {
	c := threeContent()
	for token, want := range map[string]string{
		"blue": "{blue [{0 1} {1 1}] [{1 1 1}]}", "green": "{green [{2 1}] [{2 1 1}]}", "red": "{red [{0 2}] [{0 2 3}]}",
		"": "{ [] []}", "a": "{ [] []}", "blu": "{ [] []}", "bluer": "{ [] []}", "grey": "{ [] []}", "zoo": "{ [] []}", "Red": "{ [] []}", "é": "{ [] []}",
	} {
		if got := fmt.Sprint(c.List(token)); got != want {
			t.Errorf("P7: %q stands at %s, want %s", token, got, want)
		}
	}
	if got := contentOf(model{1, "k", ""}).List("red"); len(got.Places) != 0 || len(got.Heads) != 0 {
		t.Errorf("P7: where there is no token, one stands at %v", got)
	}
	for seed := range 50 {
		c := drawn(seed)
		for _, list := range c.Lists {
			if got := c.List(list.Token); fmt.Sprint(got) != fmt.Sprint(list) {
				t.Errorf("P7: %q stands at %v, want %v", list.Token, got, list)
			}
		}
	}
}

// A head bounds its own block alone, from both sides.
func TestHeads(t *testing.T) {
	var models []model
	for i, words := range []string{"x y", "", "x x", "x x x y y", "x", "x x y y", "x y y y y", "x x x x", "x y y", "z", "x x x x x x"} {
		models = append(models, model{i + 1, fmt.Sprintf("k%d", i), words})
	}
	c := contentOf(models...)
	for token, want := range map[string]string{
		"x": "[{4 3 1} {8 4 3} {10 6 6}]", "y": "[{6 4 2} {8 2 3}]", "z": "[{9 1 1}]",
	} {
		if got := fmt.Sprint(c.List(token).Heads); got != want {
			t.Errorf("P6: the heads of %q are %s, want %s", token, got, want)
		}
	}
	if got := ListOf("x", nil, c.Documents); len(got.Heads) != 0 {
		t.Errorf("P6: a token that no document has has the heads %v", got.Heads)
	}
}
