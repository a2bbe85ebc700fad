package segment

import (
	"slices"

	"scout/document"
	"scout/tokens"
)

// parser gathers what is in a segment while it reads it part by part.
type parser struct {
	reader
	content Content
}

// Read tells what is in a segment; of a text that is none it tells by an error
// what is wrong, and where.
func Read(text string) (Content, error) {
	if len(text) > MaxBytes {
		return Content{}, ErrLong
	}
	p := &parser{reader: reader{text: text}}
	parts := []struct {
		name string
		read func() error
	}{
		{"mark", p.readMark},
		{"documents", p.readDocuments},
		{"tokens", p.readLists},
		{"lengths", p.compareLengths},
		{"check", p.readCheck},
		{"end", p.readEnd},
	}
	for _, part := range parts {
		if err := part.read(); err != nil {
			return Content{}, &InPart{Part: part.name, Err: err}
		}
	}
	return p.content, nil
}

func (p *parser) readMark() error {
	found, err := p.take(len(mark))
	if err != nil {
		return err
	}
	if found != mark {
		return &AtByte{Byte: 0, Err: ErrForm}
	}
	return nil
}

func (p *parser) readDocuments() error {
	count, err := p.number(1, document.MaxDocs)
	if err != nil {
		return err
	}
	before := 0
	for i := range count {
		d, err := p.readDocument(before)
		if err != nil {
			return inOneOf("document", i, err)
		}
		p.content.Documents = append(p.content.Documents, d)
		before = d.Number
	}
	return nil
}

// readDocument reads a document; before is the number of the one ahead.
func (p *parser) readDocument(before int) (document.Document, error) {
	ahead, err := p.number(1, document.MaxDocs-before)
	if err != nil {
		return document.Document{}, err
	}
	length, err := p.number(0, document.MaxTokens)
	if err != nil {
		return document.Document{}, err
	}
	key, err := p.readKey()
	if err != nil {
		return document.Document{}, err
	}
	return document.Document{Number: before + ahead, Key: key, Length: length}, nil
}

func (p *parser) readKey() (string, error) {
	from := p.at
	key, err := p.name()
	if err != nil {
		return "", err
	}
	if !document.IsKey(key) || p.hasKey(key) {
		return "", &AtByte{Byte: from, Err: ErrName}
	}
	return key, nil
}

func (p *parser) hasKey(key string) bool {
	return slices.ContainsFunc(p.content.Documents, func(d document.Document) bool {
		return d.Key == key
	})
}

func (p *parser) readLists() error {
	count, err := p.number(0, document.MaxDocs*document.MaxTokens)
	if err != nil {
		return err
	}
	before := ""
	for i := range count {
		list, err := p.readList(before)
		if err != nil {
			return inOneOf("token", i, err)
		}
		p.content.Lists = append(p.content.Lists, list)
		before = list.Token
	}
	return nil
}

// readList reads the list of a token; before is the token ahead.
func (p *parser) readList(before string) (List, error) {
	token, err := p.readToken(before)
	if err != nil {
		return List{}, err
	}
	list := List{Token: token}
	if err := p.readBlocks(&list); err != nil {
		return List{}, err
	}
	return list, nil
}

func (p *parser) readToken(before string) (string, error) {
	from := p.at
	token, err := p.name()
	if err != nil {
		return "", err
	}
	if !tokens.IsToken(token) || token <= before {
		return "", &AtByte{Byte: from, Err: ErrName}
	}
	return token, nil
}

func (p *parser) readBlocks(list *List) error {
	count, err := p.number(1, len(p.content.Documents))
	if err != nil {
		return err
	}
	next := 0
	for i := 0; len(list.Places) < count; i++ {
		head, block, err := p.readBlock(min(Block, count-len(list.Places)), next)
		if err != nil {
			return inOneOf("block", i, err)
		}
		list.Heads = append(list.Heads, head)
		list.Places = append(list.Places, block...)
		next = head.Last + 1
	}
	return nil
}

// readBlock reads a head and some places, whose first ordinal is next or greater.
func (p *parser) readBlock(size, next int) (Head, []Place, error) {
	from := p.at
	head, err := p.readHead()
	if err != nil {
		return Head{}, nil, err
	}
	block, err := p.readPlaces(size, next)
	if err != nil {
		return Head{}, nil, err
	}
	if head != headOf(block, p.content.Documents) {
		return Head{}, nil, &AtByte{Byte: from, Err: ErrSum}
	}
	return head, block, nil
}

func (p *parser) readHead() (Head, error) {
	last, err := p.number(0, len(p.content.Documents)-1)
	if err != nil {
		return Head{}, err
	}
	greatest, err := p.number(1, document.MaxTokens)
	if err != nil {
		return Head{}, err
	}
	least, err := p.number(1, document.MaxTokens)
	if err != nil {
		return Head{}, err
	}
	return Head{Last: last, Greatest: greatest, Least: least}, nil
}

// readPlaces reads the places of a block. A step is counted from the least
// ordinal that may follow.
func (p *parser) readPlaces(size, next int) ([]Place, error) {
	from := p.at
	steps, repeats, err := p.readBody(size)
	if err != nil {
		return nil, err
	}
	var block []Place
	for i, step := range steps {
		ordinal := next + step
		if ordinal >= len(p.content.Documents) {
			return nil, &AtByte{Byte: from, Err: ErrBound}
		}
		block = append(block, Place{Ordinal: ordinal, Count: repeats[i] + 1})
		next = ordinal + 1
	}
	return block, nil
}

// readBody reads the steps of a block's documents, and their counts less 1.
func (p *parser) readBody(size int) (steps, repeats []int, err error) {
	if size < Block {
		return p.readPairs(size)
	}
	stepWidth, err := p.width()
	if err != nil {
		return nil, nil, err
	}
	repeatWidth, err := p.width()
	if err != nil {
		return nil, nil, err
	}
	if steps, err = p.packed(stepWidth); err != nil {
		return nil, nil, err
	}
	if repeats, err = p.packed(repeatWidth); err != nil {
		return nil, nil, err
	}
	return steps, repeats, nil
}

func (p *parser) readPairs(size int) (steps, repeats []int, err error) {
	for range size {
		step, err := p.number(0, document.MaxDocs-1)
		if err != nil {
			return nil, nil, err
		}
		repeat, err := p.number(0, document.MaxTokens-1)
		if err != nil {
			return nil, nil, err
		}
		steps = append(steps, step)
		repeats = append(repeats, repeat)
	}
	return steps, repeats, nil
}

// compareLengths tells whether each document is as long as its counts are
// together.
func (p *parser) compareLengths() error {
	sums := make([]int, len(p.content.Documents))
	for _, list := range p.content.Lists {
		for _, place := range list.Places {
			sums[place.Ordinal] += place.Count
		}
	}
	for i, d := range p.content.Documents {
		if sums[i] != d.Length {
			return inOneOf("document", i, &AtByte{Byte: p.at, Err: ErrSum})
		}
	}
	return nil
}

func (p *parser) readCheck() error {
	from := p.at
	want := checkOf(p.text[:from])
	found, err := p.take(len(want))
	if err != nil {
		return err
	}
	if found != want {
		return &AtByte{Byte: from, Err: ErrSum}
	}
	return nil
}

func (p *parser) readEnd() error {
	if p.at < len(p.text) {
		return &AtByte{Byte: p.at, Err: ErrRest}
	}
	return nil
}
