package worth

import (
	"math/big"
	"testing"
)

func TestLg(t *testing.T) {
	for x, want := range map[int]int{
		1: 0, 2: 256, 3: 384, 4: 512, 5: 576, 6: 640, 7: 704, 8: 768, 9: 800, 511: 2303, 512: 2304, 513: 2304, 514: 2305,
		65535: 4095, 65536: 4096, 65537: 4096, 104857: 4249, 131071: 4351, 131072: 4352, 174762: 4437,
	} {
		if got := lg(x); got != want {
			t.Errorf("P7: lg(%d) = %d, want %d", x, got, want)
		}
	}
}

// lgOf reckons as the document says it, with numbers of any size.
func lgOf(x *big.Int) int64 {
	b, power := int64(0), big.NewInt(1)
	for {
		double := new(big.Int).Lsh(power, 1)
		if x.Cmp(double) < 0 {
			break
		}
		b, power = b+1, double
	}
	y := new(big.Int).Mul(x, big.NewInt(256))
	return 256*b + y.Div(y, power).Int64() - 256
}

func TestEveryWeight(t *testing.T) {
	for n := range 101 {
		for f := range n + 1 {
			x := big.NewInt(int64(2*n+2) * 65536)
			x.Div(x, big.NewInt(int64(2*f+1)))
			want := lgOf(x) - 4096
			if got := (Whole{Documents: n, Length: 7}).Weight(f); int64(got) != want || got < 1 {
				t.Errorf("P7: of %d documents, %d with the token, the weight is %d, want %d", n, f, got, want)
			}
		}
	}
}

func TestExample(t *testing.T) {
	w := Whole{Documents: 3, Length: 5}
	for having, want := range map[int]int{1: 341, 2: 153} {
		if got := w.Weight(having); got != want {
			t.Errorf("P7: Weight(%d) = %d, want %d", having, got, want)
		}
	}
	for _, c := range []struct{ weight, count, length, want int }{
		{341, 2, 3, 25083960}, {153, 1, 3, 7554528}, {153, 1, 1, 11988774}, {341, 0, 3, 0}, {153, 0, 0, 0},
	} {
		if got := w.Worth(c.weight, c.count, c.length); got != c.want {
			t.Errorf("P7: Worth(%d, %d, %d) = %d, want %d", c.weight, c.count, c.length, got, c.want)
		}
	}
}

func TestNothingIsWorthNothing(t *testing.T) {
	for _, w := range []Whole{{}, {Documents: 1}, {Documents: 100, Length: 4000}} {
		if got := w.Worth(w.Weight(0), 0, 0); got != 0 {
			t.Errorf("P7: a count of 0 is worth %d in %v", got, w)
		}
	}
}

// Where no live document has a token, one that is live no more may still be asked
// for.
func TestNoLengthAtAll(t *testing.T) {
	for _, w := range []Whole{{}, {Documents: 1}, {Documents: 100}} {
		for _, count := range []int{0, 1, 40} {
			if got := w.Worth(w.Weight(0), count, count); got != 0 {
				t.Errorf("P7: a count of %d is worth %d in %v", count, got, w)
			}
		}
	}
}

// A head's greatest count and least length bound what its documents are worth
// only if this is so.
func TestWorthRisesWithCountAndFallsWithLength(t *testing.T) {
	for _, w := range []Whole{{1, 40}, {2, 41}, {7, 90}, {100, 40}, {100, 4000}} {
		for length := 1; length <= 40; length++ {
			for count := 1; count <= length; count++ {
				got := w.Worth(341, count, length)
				if more := w.Worth(341, count+1, length); more < got {
					t.Errorf("P7: in %v, of length %d, a count of %d is worth %d, one more %d", w, length, count, got, more)
				}
				if longer := w.Worth(341, count, length+1); longer > got {
					t.Errorf("P7: in %v, a count of %d in the length %d is worth %d, in one more %d", w, count, length, got, longer)
				}
			}
		}
	}
}

// At the bounds of all numbers the worth is still what the document says.
func TestWorthAtTheBounds(t *testing.T) {
	for _, n := range []int{1, 2, 50, 99, 100} {
		for _, d := range []int{1, 2, 39, 40} {
			for _, c := range []int{1, 2, 39, 40} {
				for _, l := range []int{1, 2, 40, 1000, 3999, 4000} {
					for _, weight := range []int{1, 341, 1549} {
						if c > d || d > l || l > 40*n {
							continue
						}
						above := big.NewInt(1441792)
						above.Mul(above, big.NewInt(int64(c))).Mul(above, big.NewInt(int64(l)))
						below := big.NewInt(int64(10*c*l + 3*l + 9*d*n))
						want := above.Div(above, below).Int64() * int64(weight)
						got := Whole{Documents: n, Length: l}.Worth(weight, c, d)
						if int64(got) != want || got <= 0 {
							t.Errorf("P7: n %d, l %d, d %d, c %d, weight %d: worth %d, want %d", n, l, d, c, weight, got, want)
						}
					}
				}
			}
		}
	}
}
