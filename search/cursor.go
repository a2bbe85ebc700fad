package search

import (
	"cmp"

	"scout/segment"
	"scout/worth"
)

// cursor stands at a place of a term in a part, or behind the last one.
type cursor struct {
	list   segment.List
	weight int
	bounds []int // of each block: none of its documents is worth more for the term
	bound  int   // of all
	at     int   // the index of the place
}

// newCursor bounds each block by its head: the worth rises with the count and
// falls with the length.
func newCursor(list segment.List, weight int, whole worth.Whole) *cursor {
	c := &cursor{list: list, weight: weight}
	for _, head := range list.Heads {
		bound := whole.Worth(weight, head.Greatest, head.Least)
		c.bounds = append(c.bounds, bound)
		c.bound = max(c.bound, bound)
	}
	return c
}

func (c *cursor) hasEnded() bool {
	return c.at >= len(c.list.Places)
}

func (c *cursor) ordinal() int {
	return c.list.Places[c.at].Ordinal
}

func (c *cursor) count() int {
	return c.list.Places[c.at].Count
}

func (c *cursor) block() int {
	return c.at / segment.Block
}

// blockBound bounds what the documents of the block are worth for the term.
func (c *cursor) blockBound() int {
	return c.bounds[c.block()]
}

// behindBlock tells the first ordinal that is not the block's.
func (c *cursor) behindBlock() int {
	return c.list.Heads[c.block()].Last + 1
}

// seek moves on to the first place with this ordinal or a greater one. A block
// that ends ahead of it is stepped over whole.
func (c *cursor) seek(ordinal int) {
	for !c.hasEnded() && c.ordinal() < ordinal {
		if c.behindBlock() <= ordinal {
			c.at = (c.block() + 1) * segment.Block
			continue
		}
		c.at++
	}
}

func compareCursors(a, b *cursor) int {
	return cmp.Compare(a.ordinal(), b.ordinal())
}
