package double

import (
	"math"
	"slices"
	"testing"
)

// rising are doubles from the first one on, but that both noughts are equal.
func rising() []float64 {
	up := []float64{least, 2 * least, mostSubnormal, leastNormal, 0.1, 1 - 0x1p-53, 1, 1 + 0x1p-52, 0x1p53, math.MaxFloat64, math.Inf(1)}
	var down []float64
	for _, x := range slices.Backward(up) {
		down = append(down, -x)
	}
	return slices.Concat(down, []float64{minusNought, 0}, up)
}

// place is where a double of rising stands, both noughts at one place.
func place(i int) int {
	if rising()[i] == 0 {
		return slices.Index(rising(), 0)
	}
	return i
}

func TestCompare(t *testing.T) {
	list := rising()
	for i, a := range list {
		for j, b := range list {
			want := 0
			if place(i) < place(j) {
				want = -1
			} else if place(i) > place(j) {
				want = 1
			}
			if n, ok := Compare(a, b); n != want || !ok {
				t.Errorf("P9.2: Compare(%v, %v): %d, %v, not %d", a, b, n, ok, want)
			}
		}
	}
	for _, nan := range nans() {
		for _, x := range append(rising(), nans()...) {
			n, ok := Compare(nan, x)
			m, also := Compare(x, nan)
			if n != 0 || ok || m != 0 || also {
				t.Errorf("P9.2: Compare of NaN and %v: %d, %v; %d, %v", x, n, ok, m, also)
			}
		}
	}
}

func TestSame(t *testing.T) {
	list := rising()
	for i, a := range list {
		for j, b := range list {
			if Same(a, b) != (i == j) {
				t.Errorf("P9.2: Same(%v, %v): not %v", a, b, i == j)
			}
		}
		for _, nan := range nans() {
			if Same(a, nan) || Same(nan, a) {
				t.Errorf("P9.2: NaN and %v are the same", a)
			}
		}
	}
	for _, a := range nans() {
		for _, b := range nans() {
			if !Same(a, b) {
				t.Errorf("P9.2: NaN %X and %X aren't the same", math.Float64bits(a), math.Float64bits(b))
			}
		}
	}
	if Same(0, minusNought) || Same(minusNought, 0) || !Same(minusNought, minusNought) || !Same(0, 0) {
		t.Error("P9.2: Same of noughts")
	}
}

func TestBetween(t *testing.T) {
	list := rising()
	for i, x := range list {
		for j, low := range list {
			for k, high := range list {
				want := place(j) <= place(i) && place(i) <= place(k)
				if Between(x, low, high) != want {
					t.Errorf("P9.2: Between(%v, %v, %v): not %v", x, low, high, want)
				}
			}
		}
	}
	inf := math.Inf(1)
	for _, nan := range nans() {
		for _, x := range list {
			if Between(nan, -inf, inf) || Between(nan, nan, nan) || Between(x, nan, inf) || Between(x, -inf, nan) || Between(x, nan, nan) || Between(nan, x, x) || Between(nan, nan, x) || Between(nan, x, nan) {
				t.Errorf("P9.2: Between of NaN and %v", x)
			}
		}
	}
}

func TestTotal(t *testing.T) {
	inf, nan, most := math.Inf(1), math.NaN(), math.MaxFloat64
	for _, c := range []struct {
		xs   []float64
		want float64
	}{
		{nil, 0}, {[]float64{}, 0}, {[]float64{minusNought}, 0}, {[]float64{minusNought, minusNought}, 0}, {[]float64{0, minusNought}, 0},
		{[]float64{1.5}, 1.5}, {[]float64{-1.5, 1.5}, 0}, {[]float64{1, 2, 3}, 6}, {[]float64{0.25, 0.25}, 0.5},
		// One by one, from the first one on, each sum a double: 0.6 and 0.6000000000000001, 0, 1 and 2.
		{[]float64{0.1, 0.2, 0.3}, 0.6000000000000001}, {[]float64{0.3, 0.2, 0.1}, 0.6}, {[]float64{0x1p53, 1, -0x1p53}, 0}, {[]float64{1, 0x1p53, -0x1p53}, 0}, {[]float64{0x1p53, -0x1p53, 1}, 1}, {[]float64{0x1p53, 1, 1}, 0x1p53}, {[]float64{1, 1, 0x1p53}, 0x1p53 + 2},
		{[]float64{least, least}, 2 * least}, {[]float64{mostSubnormal, least}, leastNormal},
		{[]float64{most, most}, inf}, {[]float64{-most, -most}, -inf}, {[]float64{most, most, -most}, inf}, {[]float64{most, -most, most}, most}, {[]float64{most, 0x1p970}, inf}, {[]float64{most, 0x1p969}, most}, {[]float64{most, most, -inf}, nan},
		{[]float64{inf}, inf}, {[]float64{-inf, 1}, -inf}, {[]float64{inf, inf}, inf}, {[]float64{inf, -inf}, nan}, {[]float64{-inf, inf}, nan}, {[]float64{1, inf, 2, -inf, 3}, nan}, {[]float64{nan}, nan}, {[]float64{1, nan, 2}, nan}, {[]float64{nan, inf}, nan},
	} {
		if x := Total(c.xs...); !sameBits(x, c.want) {
			t.Errorf("P9.3: Total(%v): %v, not %v", c.xs, x, c.want)
		}
	}
}

func TestMost(t *testing.T) {
	inf, nan := math.Inf(1), math.NaN()
	for _, c := range []struct {
		xs   []float64
		want float64
	}{
		{nil, nan}, {[]float64{}, nan}, {[]float64{1}, 1}, {[]float64{-1}, -1}, {[]float64{1, 3, 2}, 3}, {[]float64{-3, -1, -2}, -1}, {[]float64{3, 2, 1}, 3}, {[]float64{1, 2, 3}, 3}, {[]float64{2, 2}, 2},
		{[]float64{0}, 0}, {[]float64{minusNought}, minusNought}, {[]float64{0, minusNought}, 0}, {[]float64{minusNought, 0}, 0}, {[]float64{minusNought, minusNought}, minusNought}, {[]float64{minusNought, minusNought, 0, minusNought}, 0}, {[]float64{-1, minusNought}, minusNought}, {[]float64{minusNought, -least}, minusNought}, {[]float64{0, least}, least}, {[]float64{-1, 0, minusNought}, 0},
		{[]float64{inf}, inf}, {[]float64{-inf}, -inf}, {[]float64{-inf, -inf}, -inf}, {[]float64{-inf, inf}, inf}, {[]float64{inf, 1}, inf}, {[]float64{-inf, -math.MaxFloat64}, -math.MaxFloat64},
	} {
		if x := Most(c.xs...); !sameBits(x, c.want) {
			t.Errorf("P9.3: Most(%v): %v, not %v", c.xs, x, c.want)
		}
		// With a NaN at any place it is NaN, INF beside it or not.
		for _, nan := range nans() {
			for i := range len(c.xs) + 1 {
				xs := slices.Insert(slices.Clone(c.xs), i, nan)
				if x := Most(xs...); x == x {
					t.Errorf("P9.3: Most(%v): %v", xs, x)
				}
			}
		}
	}
	list := rising()
	for i, a := range list {
		for j, b := range list {
			if x := Most(a, b); !sameBits(x, list[max(i, j)]) {
				t.Errorf("P9.3: Most(%v, %v): %v", a, b, x)
			}
		}
	}
}

func TestListsAreLeft(t *testing.T) {
	room := []float64{3, minusNought, 2, 7, 8}
	was := slices.Clone(room)
	Total(room[:3]...)
	Most(room[:3]...)
	if !slices.EqualFunc(room, was, sameBits) {
		t.Errorf("Total and Most have changed their arguments: %v", room)
	}
}
