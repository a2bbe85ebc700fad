package scout

import (
	"errors"
	"strings"
	"testing"

	"scout/segment"
)

// three is the body of the document's example.
const three = "SG\x03\x01\x03\x02k1\x01\x01\x02k2\x01\x01\x02k3\x03" +
	"\x04blue\x02\x01\x01\x01\x00\x00\x00\x00" + "\x05green\x01\x02\x01\x01\x02\x00" + "\x03red\x01\x00\x02\x03\x00\x01"

// sealed puts the check behind some bytes.
func sealed(s string) string {
	h := uint32(2166136261)
	for i := range len(s) {
		h = (h ^ uint32(s[i])) * 16777619
	}
	return s + string([]byte{byte(h), byte(h >> 8), byte(h >> 16), byte(h >> 24)})
}

func open(t *testing.T, text, want string, errno Errno) {
	t.Helper()
	if got, e := Open(text); got != want || e != errno {
		t.Errorf("P4: Open(%.80q) = %q, %d, want %q, %d", text, got, e, want, errno)
	}
}

func TestOpen(t *testing.T) {
	open(t, sealed(three), "1:k1:3;2:k2:1;3:k3:1;blue,0*1,1*1;green,2*1;red,0*2;", OK)
	open(t, sealed("SG\x01\x64\x00\x08abcdefgh\x00"), "100:abcdefgh:0;", OK)
	open(t, sealed("SG\x01\x01\x28\x01k\x01\x01x\x01\x00\x28\x28\x00\x27"), "1:k:40;x,0*40;", OK)
	open(t, sealed("SG\x02\x0a\x01\x0201\x59\x01\x029z\x02\x02ab\x01\x01\x01\x01\x01\x00\x02\xc3\xa9\x01\x00\x01\x01\x00\x00"), "10:01:1;99:9z:1;ab,1*1;é,0*1;", OK)
}

func TestOpenPackedBlock(t *testing.T) {
	e := New()
	for i, text := range []string{"x", "y", "x x x", "x", "y", "y", "x x x x x y", "x", "x x"} {
		add(t, e, string("abcdefghi"[i]), text, OK)
	}
	e.Flush()
	text, _ := e.Dump(0)
	open(t, text, "1:a:1;2:b:1;3:c:3;4:d:1;5:e:1;6:f:1;7:g:6;8:h:1;9:i:2;"+
		"x,0*1,2*3,3*1,6*5,7*1,8*2;y,1*1,4*1,5*1,6*1;", OK)
}

func TestOpenCorrupt(t *testing.T) {
	good := sealed(three)
	for _, text := range []string{
		"", "S", "SG", "SG\x00", sealed(""), sealed("SG"), sealed("SG\x00\x00"), three, good + "\x00", "\x00" + good, good + good,
		strings.Repeat("S", 60000), good + strings.Repeat("\x00", 60000-len(good)), "no segment", strings.ToLower(good),
		sealed(strings.Replace(three, "k2", "k1", 1)), sealed(strings.Replace(three, "red", "the", 1)),
		sealed("SG\x01\x64\x05\x08abcdefgh\x00"), sealed("SG\x01\x65\x00\x01k\x00"),
	} {
		open(t, text, "", ErrCorrupt)
	}
	for i := range len(good) {
		open(t, good[:i], "", ErrCorrupt)
		for by := 1; by < 256; by++ {
			b := []byte(good)
			b[i] += byte(by)
			open(t, string(b), "", ErrCorrupt)
		}
	}
}

func TestOpenTooLong(t *testing.T) {
	good := sealed(three)
	open(t, strings.Repeat("S", 60001), "", ErrLong)
	open(t, good+strings.Repeat("\x00", 60001-len(good)), "", ErrLong)
}

func TestErrorsOfReading(t *testing.T) {
	at := func(err error) error {
		return &segment.InPart{Part: "tokens", Err: &segment.InPart{Part: "token 1", Err: &segment.AtByte{Byte: 7, Err: err}}}
	}
	for _, c := range []struct {
		err  error
		want Errno
	}{
		{nil, OK},
		{segment.ErrLong, ErrLong},
		{&segment.InPart{Part: "all", Err: segment.ErrLong}, ErrLong},
		{at(segment.ErrEnds), ErrCorrupt},
		{at(segment.ErrSum), ErrCorrupt},
		{at(errors.New("another")), ErrCorrupt},
	} {
		if got := errnoOf(c.err); got != c.want {
			t.Errorf("P4: the error %v is answered by %d, want %d", c.err, got, c.want)
		}
	}
}
