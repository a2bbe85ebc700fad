package segment

import "scout/document"

// Write tells the bytes of a segment with this content.
func Write(c Content) string {
	text := appendDocuments([]byte(mark), c.Documents)
	text = appendVarint(text, len(c.Lists))
	for _, list := range c.Lists {
		text = appendList(text, list)
	}
	return string(text) + checkOf(string(text))
}

func appendDocuments(text []byte, documents []document.Document) []byte {
	text = appendVarint(text, len(documents))
	before := 0
	for _, d := range documents {
		text = appendVarint(text, d.Number-before)
		text = appendVarint(text, d.Length)
		text = appendName(text, d.Key)
		before = d.Number
	}
	return text
}

func appendName(text []byte, name string) []byte {
	text = append(text, byte(len(name)))
	return append(text, name...)
}

func appendList(text []byte, list List) []byte {
	text = appendName(text, list.Token)
	text = appendVarint(text, len(list.Places))
	next := 0
	for i, head := range list.Heads {
		text = appendHead(text, head)
		text = appendBody(text, list.block(i), next)
		next = head.Last + 1
	}
	return text
}

func appendHead(text []byte, h Head) []byte {
	text = appendVarint(text, h.Last)
	text = appendVarint(text, h.Greatest)
	return appendVarint(text, h.Least)
}

func appendBody(text []byte, block []Place, next int) []byte {
	var steps, repeats []int
	for _, p := range block {
		steps = append(steps, p.Ordinal-next)
		repeats = append(repeats, p.Count-1)
		next = p.Ordinal + 1
	}
	if len(block) < Block {
		return appendPairs(text, steps, repeats)
	}
	text = append(text, byte(widthOf(steps)), byte(widthOf(repeats)))
	text = appendPacked(text, steps, widthOf(steps))
	return appendPacked(text, repeats, widthOf(repeats))
}

func appendPairs(text []byte, steps, repeats []int) []byte {
	for i := range steps {
		text = appendVarint(text, steps[i])
		text = appendVarint(text, repeats[i])
	}
	return text
}
