package crash

import (
	"math"
	"slices"
	"testing"
)

// P23.2: Moment by hand.
func TestMoment(t *testing.T) {
	for _, x := range []struct {
		points []int
		k      int
		ok     bool
	}{
		{nil, 0, true}, {[]int{}, 0, true},
		{[]int{Before}, 1, true}, {[]int{Before, Before, Before}, 3, true},
		{[]int{After}, 0, true}, {[]int{After, After, After}, 0, true},
		{[]int{Before, After}, 1, true}, {[]int{Before, Before, After}, 2, true}, {[]int{Before, After, After, After}, 1, true},
		{[]int{After, Before}, 0, false}, {[]int{Before, After, Before}, 0, false}, {[]int{After, Before, After}, 0, false}, {[]int{Before, After, Before, After}, 0, false},
		{[]int{Same}, 0, true}, {[]int{Same, Same, Same}, 0, true},
		{[]int{Same, After}, 0, false}, {[]int{Same, Before}, 0, false}, {[]int{Before, Same}, 0, false}, {[]int{After, Same}, 0, false},
		{[]int{Before, Same, After}, 0, false}, {[]int{Same, Same, Before}, 0, false}, {[]int{Before, After, Same}, 0, false},
		{[]int{Neither}, 0, false}, {[]int{Before, Neither}, 0, false}, {[]int{Neither, After}, 0, false}, {[]int{Before, Neither, After}, 0, false}, {[]int{Same, Neither}, 0, false}, {[]int{Neither, Neither}, 0, false},
		{[]int{0}, 0, false}, {[]int{5}, 0, false}, {[]int{-1}, 0, false}, {[]int{Before, 0, After}, 0, false}, {[]int{Before, After, 5}, 0, false}, {[]int{math.MaxInt, math.MinInt}, 0, false},
		{[]int{Before + 1<<32, After}, 0, false}, {[]int{Same + 1<<32}, 0, false},
	} {
		if k, ok := Moment(x.points); k != x.k || ok != x.ok {
			t.Errorf("P23.2: Moment(%v): %d, %v, want %d, %v", x.points, k, ok, x.k, x.ok)
		}
	}
}

// P23.2: all lists of up to six numbers from 0 to 5, and long ones, against the plain
// reading; the list stays as it was.
func TestAllMoments(t *testing.T) {
	for n := range 7 {
		count := 1
		for range n {
			count *= 6
		}
		for code := range count {
			points := make([]int, n, n+2)
			for i := range points {
				points[i], code = code%6, code/6
			}
			was := slices.Clone(points)
			wantK, wantOk := plainMoment(points)
			if k, ok := Moment(points); k != wantK || ok != wantOk || !slices.Equal(points, was) {
				t.Fatalf("P23.2: Moment(%v): %d, %v, want %d, %v; then %v", was, k, ok, wantK, wantOk, points)
			}
		}
	}
	for _, k := range []int{0, 1, 500000, 999999, 1000000} {
		points := append(slices.Repeat([]int{Before}, k), slices.Repeat([]int{After}, 1000000-k)...)
		if got, ok := Moment(points); got != k || !ok {
			t.Errorf("P23.2: a million points: %d, %v, want %d", got, ok, k)
		}
		points[(k+500000)%1000000] = Same
		if got, ok := Moment(points); got != 0 || ok {
			t.Errorf("P23.2: a million points, Same among them: %d, %v", got, ok)
		}
	}
}
