package segment

import (
	"errors"
	"testing"
)

func TestFaultsTellWhere(t *testing.T) {
	_, err := Read(sealed("SG\x01\x01\x01\x01k\x01\x01x\x01\x00\x02\x01\x00\x00"))
	if got := err.Error(); got != "tokens: token 0: block 0: byte 11: does not agree with what it sums up" {
		t.Errorf("the error says %q", got)
	}
	var part *InPart
	var place *AtByte
	if !errors.As(err, &part) || part.Part != "tokens" || !errors.As(err, &place) || place.Byte != 11 {
		t.Errorf("the error %v does not tell its place", err)
	}
	if !errors.Is(err, ErrSum) || errors.Is(err, ErrForm) || errors.Is(err, ErrLong) {
		t.Errorf("the error %v is not what it was", err)
	}
}
