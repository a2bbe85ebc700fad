package scout

import (
	"errors"
	"strconv"
	"strings"

	"scout/segment"
)

// Open tells what is in a segment (P4).
func Open(text string) (string, Errno) {
	content, err := segment.Read(text)
	if errno := errnoOf(err); errno != OK {
		return "", errno
	}
	return listing(content), OK
}

// errnoOf tells what a call answers for what was found in reading a segment. A
// text that is too long has not been read, so no byte of it is wrong; all else
// that can be wrong is so at a byte.
func errnoOf(err error) Errno {
	var fault *segment.AtByte
	switch {
	case errors.Is(err, segment.ErrLong):
		return ErrLong
	case errors.As(err, &fault):
		return ErrCorrupt
	}
	return OK
}

func listing(c segment.Content) string {
	var out strings.Builder
	for _, d := range c.Documents {
		out.WriteString(strconv.Itoa(d.Number) + ":" + d.Key + ":" + strconv.Itoa(d.Length) + ";")
	}
	for _, list := range c.Lists {
		out.WriteString(list.Token)
		for _, p := range list.Places {
			out.WriteString("," + strconv.Itoa(p.Ordinal) + "*" + strconv.Itoa(p.Count))
		}
		out.WriteString(";")
	}
	return out.String()
}
