package best_test

import (
	"math"
	"slices"
	"testing"

	"sandglass/best"
	"sandglass/ptp"
)

const (
	most  = math.MaxInt
	least = math.MinInt
)

// numbers rise; any two of them tell which of two clocks or vectors is the better one.
var numbers = []int{least, least + 1, -1 << 48, -256, -2, -1, 0, 1, 2, 127, 128, 255, 256, 65535, 1<<32 + 1, 1<<48 - 1, most - 1, most}

// prior is a clock by its four numbers, those that weigh most first.
func prior(x [4]int) ptp.Prior { return ptp.Prior{One: x[0], Class: x[1], Two: x[2], Id: x[3]} }

// vector is one by its eight numbers, those that weigh most first.
func vector(x [8]int) best.Vec {
	return best.Vec{Root: prior([4]int(x[:4])), Steps: x[4], From: x[5], Port: x[6], At: x[7]}
}

// holdCmp holds Cmp of two clocks, both ways round, against what it must be.
func holdCmp(t *testing.T, a, b ptp.Prior, want int) {
	t.Helper()
	if got, back := best.Cmp(a, b), best.Cmp(b, a); got != want || back != -want {
		t.Errorf("Cmp of %+v and %+v is %d, and turned round %d, not %d", a, b, got, back, want)
	}
}

// holdVecCmp holds Cmp of two vectors, both ways round, against what it must be.
func holdVecCmp(t *testing.T, v, w best.Vec, want int) {
	t.Helper()
	if got, back := v.Cmp(w), w.Cmp(v); got != want || back != -want {
		t.Errorf("Cmp of %+v and %+v is %d, and turned round %d, not %d", v, w, got, back, want)
	}
}

// P19.1: each number, where those ahead are the same, and those behind tell otherwise.
func TestCmp(t *testing.T) {
	for place := range 4 {
		for i, x := range numbers {
			for _, ahead := range []int{-7, 0, 9} {
				a, b := [4]int{ahead, ahead, ahead, ahead}, [4]int{ahead, ahead, ahead, ahead}
				a[place], b[place] = x, x
				for behind := place + 1; behind < len(a); behind++ {
					a[behind], b[behind] = most, least
				}
				for _, y := range numbers[i+1:] {
					b[place] = y
					holdCmp(t, prior(a), prior(b), -1)
				}
				b = a
				holdCmp(t, prior(a), prior(b), 0)
			}
		}
	}
}

// P19.1: two clocks of everyday, by name.
func TestCmpNamed(t *testing.T) {
	for _, x := range []struct {
		a, b ptp.Prior
		want int
	}{
		{ptp.Prior{}, ptp.Prior{}, 0},
		{ptp.Prior{One: 1, Class: 9, Two: 9, Id: 9}, ptp.Prior{One: 2}, -1},
		{ptp.Prior{One: 1, Class: 1, Two: 9, Id: 9}, ptp.Prior{One: 1, Class: 2}, -1},
		{ptp.Prior{One: 1, Class: 1, Two: 1, Id: 9}, ptp.Prior{One: 1, Class: 1, Two: 2}, -1},
		{ptp.Prior{One: 1, Class: 1, Two: 1, Id: 1}, ptp.Prior{One: 1, Class: 1, Two: 1, Id: 2}, -1},
		{ptp.Prior{One: 1, Class: 1, Two: 1, Id: 1}, ptp.Prior{One: 1, Class: 1, Two: 1, Id: 1}, 0},
		{ptp.Prior{One: -1}, ptp.Prior{}, -1},
		{ptp.Prior{Id: -1}, ptp.Prior{}, -1},
	} {
		holdCmp(t, x.a, x.b, x.want)
	}
}

// P19.2: of two vectors each number tells likewise, where those ahead are the same.
func TestVecCmp(t *testing.T) {
	for place := range 8 {
		for i, x := range numbers {
			var a, b [8]int
			for ahead := range place {
				a[ahead], b[ahead] = 5-ahead, 5-ahead
			}
			a[place] = x
			for behind := place + 1; behind < len(a); behind++ {
				a[behind], b[behind] = most, least
			}
			for _, y := range numbers[i+1:] {
				b[place] = y
				holdVecCmp(t, vector(a), vector(b), -1)
			}
			holdVecCmp(t, vector(a), vector(a), 0)
		}
	}
}

// P19.2: two vectors by name: the better Root, the fewer Steps, the lesser From, Port, At.
func TestVecCmpNamed(t *testing.T) {
	r := ptp.Prior{One: 1, Class: 2, Two: 3, Id: 4}
	worse := ptp.Prior{One: 1, Class: 2, Two: 3, Id: 5}
	for _, x := range []struct {
		v, w best.Vec
		want int
	}{
		{best.Vec{}, best.Vec{}, 0},
		{best.Vec{r, 9, 9, 9, 9}, best.Vec{worse, 0, 0, 0, 0}, -1},
		{best.Vec{r, 1, 9, 9, 9}, best.Vec{r, 2, 0, 0, 0}, -1},
		{best.Vec{r, 1, 1, 9, 9}, best.Vec{r, 1, 2, 0, 0}, -1},
		{best.Vec{r, 1, 1, 1, 9}, best.Vec{r, 1, 1, 2, 0}, -1},
		{best.Vec{r, 1, 1, 1, 1}, best.Vec{r, 1, 1, 1, 2}, -1},
		{best.Vec{r, 1, 1, 1, 1}, best.Vec{r, 1, 1, 1, 1}, 0},
		{best.Vec{r, -1, 1, 1, 1}, best.Vec{r, 0, 1, 1, 1}, -1},
		{best.Vec{r, 0, 0, 0, -1}, best.Vec{r, 0, 0, 0, 0}, -1},
	} {
		holdVecCmp(t, x.v, x.w, x.want)
	}
}

// holdFirst holds First against the place it must be.
func holdFirst(t *testing.T, list []ptp.Prior, want int) {
	t.Helper()
	kept := slices.Clone(list[:cap(list)])
	if got := best.First(list); got != want {
		t.Errorf("First of %+v is %d, not %d", list, got, want)
	}
	if !slices.Equal(list[:cap(list)], kept) {
		t.Errorf("First has changed %+v", list)
	}
}

// P19.1: First of none, of one, of several, of several that are as good.
func TestFirst(t *testing.T) {
	a, b, c := ptp.Prior{One: 1, Id: 3}, ptp.Prior{One: 1, Id: 4}, ptp.Prior{One: 2}
	below := ptp.Prior{One: -1, Class: 9, Two: 9, Id: 9}
	for _, x := range []struct {
		list []ptp.Prior
		want int
	}{
		{nil, -1},
		{[]ptp.Prior{}, -1},
		{[]ptp.Prior{a, a}[:0], -1},
		{[]ptp.Prior{{}}, 0},
		{[]ptp.Prior{prior([4]int{most, most, most, most})}, 0},
		{[]ptp.Prior{a, b}, 0},
		{[]ptp.Prior{b, a}, 1},
		{[]ptp.Prior{c, b, a}, 2},
		{[]ptp.Prior{c, a, b}, 1},
		{[]ptp.Prior{a, a, a}, 0},
		{[]ptp.Prior{b, a, a, b, a}, 1},
		{[]ptp.Prior{c, c, b, c, b}, 2},
		{[]ptp.Prior{{}, a, below, below}, 2},
		{[]ptp.Prior{a, b, c, below}, 3},
		{[]ptp.Prior{c, b, a, below}[:2], 1},
	} {
		holdFirst(t, x.list, x.want)
	}
}

// P19.1: the best one at each place of longer lists.
func TestFirstEachPlace(t *testing.T) {
	for size := 1; size <= 40; size++ {
		for first := range size {
			list := make([]ptp.Prior, size)
			for at := range list {
				list[at] = ptp.Prior{One: 5, Class: at*7%5 + 1, Id: at}
			}
			list[first].Class = 0
			holdFirst(t, list, first)
			// As good ones behind it don't come first.
			for at := first + 1; at < size; at += 3 {
				list[at] = list[first]
			}
			holdFirst(t, list, first)
		}
	}
}
