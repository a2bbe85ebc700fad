package segment

import (
	"errors"
	"strconv"
)

// What can be wrong with a text that is no segment. Read answers ErrLong as it
// is, for then it has not looked at a byte; all others come wrapped by an AtByte
// and, around this, by an InPart or more.
var (
	ErrLong  = errors.New("too many bytes")
	ErrEnds  = errors.New("the bytes end too early")
	ErrRest  = errors.New("there are bytes behind the end")
	ErrForm  = errors.New("not written in the one way that is right")
	ErrBound = errors.New("a number that cannot be")
	ErrName  = errors.New("a key or token that cannot be, or not at this place")
	ErrSum   = errors.New("does not agree with what it sums up")
)

// AtByte tells at which byte the thing begins that is wrong; where the whole is
// wrong and not one thing of it, at which byte the whole ends.
type AtByte struct {
	Byte int
	Err  error
}

func (f *AtByte) Error() string { return "byte " + strconv.Itoa(f.Byte) + ": " + f.Err.Error() }

func (f *AtByte) Unwrap() error { return f.Err }

// InPart tells in which part of the segment, or of a greater part, this is.
type InPart struct {
	Part string
	Err  error
}

func (f *InPart) Error() string { return f.Part + ": " + f.Err.Error() }

func (f *InPart) Unwrap() error { return f.Err }

// inOneOf tells the part by its kind and by its index among those of its kind.
func inOneOf(kind string, index int, err error) error {
	return &InPart{Part: kind + " " + strconv.Itoa(index), Err: err}
}
