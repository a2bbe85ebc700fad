package segment

import (
	"fmt"
	"maps"
	"slices"
	"strings"

	"scout/document"
)

// model is a document as the tests have it: with all its words.
type model struct {
	number int
	key    string
	words  string
}

// contentOf tells what a segment of these documents holds.
func contentOf(models ...model) Content {
	var c Content
	counts := map[string][]Place{}
	for ordinal, m := range models {
		words := strings.Fields(m.words)
		c.Documents = append(c.Documents, document.Document{Number: m.number, Key: m.key, Length: len(words)})
		slices.Sort(words)
		for _, word := range slices.Compact(slices.Clone(words)) {
			n := 0
			for _, w := range words {
				if w == word {
					n++
				}
			}
			counts[word] = append(counts[word], Place{Ordinal: ordinal, Count: n})
		}
	}
	for _, word := range slices.Sorted(maps.Keys(counts)) {
		c.Lists = append(c.Lists, ListOf(word, counts[word], c.Documents))
	}
	return c
}

// written writes a segment as the document tells it, bit by bit, and not as the
// program does.
func written(c Content) string {
	s := "SG" + varint(len(c.Documents))
	before := 0
	for _, d := range c.Documents {
		s += varint(d.Number-before) + varint(d.Length) + string([]byte{byte(len(d.Key))}) + d.Key
		before = d.Number
	}
	s += varint(len(c.Lists))
	for _, list := range c.Lists {
		s += string([]byte{byte(len(list.Token))}) + list.Token + varint(len(list.Places))
		before := -1
		for i := 0; i < len(list.Places); i += 4 {
			block := list.Places[i:min(i+4, len(list.Places))]
			greatest, least := 0, 1000
			var steps, repeats []int
			for _, p := range block {
				greatest, least = max(greatest, p.Count), min(least, c.Documents[p.Ordinal].Length)
				steps, repeats = append(steps, p.Ordinal-before-1), append(repeats, p.Count-1)
				before = p.Ordinal
			}
			s += varint(before) + varint(greatest) + varint(least)
			if len(block) == 4 {
				s += packed(steps, repeats)
				continue
			}
			for i := range block {
				s += varint(steps[i]) + varint(repeats[i])
			}
		}
	}
	return sealed(s)
}

func varint(n int) string {
	if n < 128 {
		return string([]byte{byte(n)})
	}
	return string([]byte{byte(n%128 + 128)}) + varint(n/128)
}

func packed(lists ...[]int) string {
	widths, bytes := "", ""
	for _, list := range lists {
		width := 0
		for _, n := range list {
			if n > 0 {
				width = max(width, len(fmt.Sprintf("%b", n)))
			}
		}
		widths += string([]byte{byte(width)})
		row := "" // the last number's highest bit stands first
		for _, n := range list {
			if width > 0 {
				row = fmt.Sprintf("%0*b", width, n) + row
			}
		}
		for row != "" {
			row = strings.Repeat("0", (8-len(row)%8)%8) + row
			var b byte
			fmt.Sscanf(row[len(row)-8:], "%b", &b)
			bytes += string([]byte{b})
			row = row[:len(row)-8]
		}
	}
	return widths + bytes
}

// sealed puts the check behind some bytes.
func sealed(s string) string {
	h := uint64(2166136261)
	for _, b := range []byte(s) {
		h = (h ^ uint64(b)) * 16777619 % (1 << 32)
	}
	for range 4 {
		s += string([]byte{byte(h % 256)})
		h /= 256
	}
	return s
}

// complaint tells by which rule a content cannot be, or nothing.
func complaint(c Content) string {
	if len(c.Documents) < 1 || len(c.Documents) > 100 {
		return "documents"
	}
	number, keys, lengths := 0, map[string]bool{}, make([]int, len(c.Documents))
	for _, d := range c.Documents {
		if d.Number <= number || d.Number > 100 {
			return "number"
		}
		number = d.Number
		if d.Length < 0 || d.Length > 40 {
			return "length"
		}
		if len(d.Key) < 1 || len(d.Key) > 8 || strings.Trim(d.Key, "abcdefghijklmnopqrstuvwxyz0123456789") != "" || keys[d.Key] {
			return "key"
		}
		keys[d.Key] = true
	}
	token := ""
	for _, list := range c.Lists {
		letters := []rune(list.Token)
		if len(letters) < 1 || len(letters) > 10 || string(letters) != list.Token || list.Token <= token ||
			strings.Trim(list.Token, "0123456789abcdefghijklmnopqrstuvwxyzßàáâãäåæçèéêëìíîïðñòóôõöøùúûüýþÿ") != "" ||
			strings.Contains(" a an and in is of the to ", " "+list.Token+" ") {
			return "token"
		}
		token = list.Token
		ordinal := -1
		for _, p := range list.Places {
			if p.Ordinal <= ordinal || p.Ordinal >= len(c.Documents) || p.Count < 1 {
				return "place"
			}
			ordinal = p.Ordinal
			lengths[p.Ordinal] += p.Count
		}
		if ordinal < 0 {
			return "list"
		}
	}
	for i, d := range c.Documents {
		if lengths[i] != d.Length {
			return "sum"
		}
	}
	return ""
}

// drawer draws numbers that are the same at each run.
type drawer uint32

func (d *drawer) below(n int) int {
	*d = *d*1664525 + 1013904223
	return int(*d>>8) % n
}

// drawn tells a content of some documents, with more or fewer words and gaps.
func drawn(seed int) Content {
	d := drawer(seed)
	var models []model
	words := 1 + d.below(60)
	gap, most := 1+d.below(4), 1+d.below(40)
	for number := 1 + d.below(20); number <= 100; number += 1 + d.below(gap) {
		m := model{number: number, key: fmt.Sprintf("k%d", number)}
		for range d.below(most + 1) {
			word := fmt.Sprintf("w%d", d.below(1+d.below(words)))
			if d.below(9) == 0 {
				word = strings.Repeat("é", 1+d.below(10))
			}
			m.words += " " + word
		}
		models = append(models, m)
	}
	return contentOf(models...)
}
