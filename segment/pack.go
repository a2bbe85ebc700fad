package segment

import (
	"math/bits"
	"slices"
)

func appendVarint(text []byte, number int) []byte {
	for number >= 128 {
		text = append(text, byte(number&127|128))
		number >>= 7
	}
	return append(text, byte(number))
}

// widthOf tells how many bits the greatest of some numbers has.
func widthOf(numbers []int) int {
	return bits.Len(uint(slices.Max(numbers)))
}

// packedSize tells how many bytes the packed numbers of a block take.
func packedSize(width int) int {
	return (Block*width + 7) / 8
}

// appendPacked packs a block's numbers. One word has room for all of them, as
// Block times maxWidth is 32.
func appendPacked(text []byte, numbers []int, width int) []byte {
	var word uint32
	for i, number := range numbers {
		word |= uint32(number) << (i * width)
	}
	for range packedSize(width) {
		text = append(text, byte(word))
		word >>= 8
	}
	return text
}

// unpack tells the numbers of a block, and what is left of the last byte, which
// is 0 if they are packed rightly.
func unpack(packed string, width int) (numbers []int, left uint32) {
	var word uint32
	for i := range len(packed) {
		word |= uint32(packed[i]) << (8 * i)
	}
	for range Block {
		numbers = append(numbers, int(word&(1<<width-1)))
		word >>= width
	}
	return numbers, word
}
