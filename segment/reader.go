package segment

// reader stands at a byte of a text. A read that fails leaves it somewhere: an
// error ends the reading of the whole.
type reader struct {
	text string
	at   int
}

// take reads some bytes.
func (r *reader) take(size int) (string, error) {
	if size > len(r.text)-r.at {
		return "", &AtByte{Byte: r.at, Err: ErrEnds}
	}
	from := r.at
	r.at += size
	return r.text[from:r.at], nil
}

// oneByte reads a byte as a number.
func (r *reader) oneByte() (int, error) {
	b, err := r.take(1)
	if err != nil {
		return 0, err
	}
	return int(b[0]), nil
}

// number reads a varint that lies within bounds. None of a segment's numbers
// takes more than two bytes, so a longer one is not followed to its end.
func (r *reader) number(least, most int) (int, error) {
	from, number := r.at, 0
	for shift := 0; shift < 14; shift += 7 {
		b, err := r.oneByte()
		if err != nil {
			return 0, err
		}
		number |= (b & 127) << shift
		if b >= 128 {
			continue
		}
		if b == 0 && shift > 0 {
			return 0, &AtByte{Byte: from, Err: ErrForm}
		}
		if number < least || number > most {
			break
		}
		return number, nil
	}
	return 0, &AtByte{Byte: from, Err: ErrBound}
}

// name reads a key or a token.
func (r *reader) name() (string, error) {
	size, err := r.oneByte()
	if err != nil {
		return "", err
	}
	return r.take(size)
}

// width reads how many bits packed numbers have.
func (r *reader) width() (int, error) {
	from := r.at
	width, err := r.oneByte()
	if err != nil {
		return 0, err
	}
	if width > maxWidth {
		return 0, &AtByte{Byte: from, Err: ErrBound}
	}
	return width, nil
}

// packed reads the packed numbers of a block.
func (r *reader) packed(width int) ([]int, error) {
	from := r.at
	packed, err := r.take(packedSize(width))
	if err != nil {
		return nil, err
	}
	numbers, left := unpack(packed, width)
	if left != 0 || widthOf(numbers) != width {
		return nil, &AtByte{Byte: from, Err: ErrForm}
	}
	return numbers, nil
}
