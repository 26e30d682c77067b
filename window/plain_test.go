package window

import (
	"math"
	"slices"
	"testing"

	"ferrule/api"
	"ferrule/span"
)

// ends are numbers that no call takes, wherever one stands.
var ends = []int{
	math.MinInt, math.MinInt + 1, -1 << 62, -1 << 32, -1<<32 + 1, -1 << 31, -513, -2,
	1<<30 + 1, 1<<31 - 1, 1 << 31, 1 << 32, 1<<32 + 1, 1 << 62, math.MaxInt - 1, math.MaxInt,
}

// runList tells runs, three numbers each.
func runList(n ...int) []api.Run {
	var l []api.Run
	for c := range slices.Chunk(n, 3) {
		l = append(l, api.Run{Lba: c[0], Len: c[1], Phys: c[2]})
	}
	return l
}

// holeList tells holes, two numbers each.
func holeList(n ...int) []api.Piece {
	var l []api.Piece
	for c := range slices.Chunk(n, 2) {
		l = append(l, api.Piece{Lba: c[0], Len: c[1], Phys: -1})
	}
	return l
}

// right is what the words of all calls have in common.
func right(l []api.Run, capacity int) bool {
	if len(l) > 512 || !span.Form(l) {
		return false
	}
	return !slices.ContainsFunc(l, func(r api.Run) bool { return r.Lba+r.Len > capacity })
}

// takesMany is P15.1's words of what is refused.
func takesMany(l []api.Run, capacity, window int) bool {
	return capacity >= 1 && capacity <= 512 && window >= 1 && window <= capacity && right(l, capacity)
}

// takesHoles is P15.2's words of what is refused. (An lba above 512, whatever n
// is, is no range: so the sum is asked for of small numbers alone.)
func takesHoles(l []api.Run, lba, n int) bool {
	return lba >= 0 && lba <= 512 && n >= 1 && n <= 512 && lba+n <= 512 && right(l, 512)
}

func has(r api.Run, sector int) bool { return sector >= r.Lba && sector < r.Lba+r.Len }

// sectorsOf tells the sectors of each window, sector by sector.
func sectorsOf(capacity, window int) [][]int {
	var windows [][]int
	for s := range capacity {
		if len(windows) == 0 || len(windows[len(windows)-1]) == window {
			windows = append(windows, nil)
		}
		windows[len(windows)-1] = append(windows[len(windows)-1], s)
	}
	return windows
}

// plainMany is P15.1's words, sector by sector, of what is not refused.
func plainMany(l []api.Run, capacity, window int) []int {
	var many []int
	for _, sectors := range sectorsOf(capacity, window) {
		n := 0
		for _, r := range l {
			if slices.ContainsFunc(sectors, func(s int) bool { return has(r, s) }) {
				n++
			}
		}
		many = append(many, n)
	}
	return many
}

// plainRichest is P15.1's words: the first window that none has more runs than.
func plainRichest(l []api.Run, capacity, window int) (lba, n, runs int) {
	many := plainMany(l, capacity, window)
	for w, sectors := range sectorsOf(capacity, window) {
		if !slices.ContainsFunc(many, func(other int) bool { return other > many[w] }) {
			return sectors[0], len(sectors), many[w]
		}
	}
	return 0, 0, 0
}

// plainHoles is P15.2's words, sector by sector, of what is not refused.
func plainHoles(l []api.Run, lba, n int) []api.Piece {
	var holes []api.Piece
	within := false
	for s := lba; s < lba+n; s++ {
		if slices.ContainsFunc(l, func(r api.Run) bool { return has(r, s) }) {
			within = false
			continue
		}
		if !within {
			holes = append(holes, api.Piece{Lba: s, Phys: -1})
			within = true
		}
		holes[len(holes)-1].Len++
	}
	return holes
}

// spoil overwrites a list, its spare room too.
func spoil[T any](l []T, v T) {
	for i := range l[:cap(l)] {
		l[:cap(l)][i] = v
	}
}

// strange stands nowhere else: what is handed in is hemmed in by it.
var strange = api.Run{Lba: 71, Len: 72, Phys: 73}

// hemmed does something with a list that has such runs ahead of it and in its
// spare room, and sees to it that all of it is as it was, whatever is done
// with the answer.
func hemmed[T any](t *testing.T, name string, l []api.Run, other T, do func([]api.Run) []T) {
	t.Helper()
	all := slices.Concat([]api.Run{strange}, l, []api.Run{strange, strange, strange})
	was := slices.Clone(all)
	answer := do(all[1 : 1+len(l)])
	if !slices.Equal(all, was) {
		t.Errorf("R4: %s: what was handed in is changed: %v, was %v", name, all, was)
	}
	spoil(answer, other)
	if !slices.Equal(all, was) {
		t.Errorf("R4: %s: the answer shares memory with what was handed in: %v, was %v", name, all, was)
	}
}

// wantMany asks Many and Richest, and tells whether they answered.
func wantMany(t *testing.T, name string, l []api.Run, capacity, window int) bool {
	t.Helper()
	takes := takesMany(l, capacity, window)
	hemmed(t, name, l, -77, func(l []api.Run) []int {
		many, e := Many(l, capacity, window)
		switch {
		case takes && (e != api.OK || !slices.Equal(many, plainMany(l, capacity, window))):
			t.Errorf("P15.1: %s: Many(%v, %d, %d): %v, %d; want %v", name, l, capacity, window, many, e, plainMany(l, capacity, window))
		case !takes && (e != api.EARG || len(many) > 0):
			t.Errorf("P15.1: %s: Many(%v, %d, %d): %v, %d; want EARG", name, l, capacity, window, many, e)
		}
		wantRichest(t, name, l, capacity, window, takes)
		return many
	})
	return takes
}

// wantRichest asks Richest, which ought to answer or not, and for P15.3.
func wantRichest(t *testing.T, name string, l []api.Run, capacity, window int, takes bool) {
	t.Helper()
	lba, n, runs, e := Richest(l, capacity, window)
	if !takes {
		if lba != 0 || n != 0 || runs != 0 || e != api.EARG {
			t.Errorf("P15.1: %s: Richest(%v, %d, %d): %d, %d, %d, %d; want EARG", name, l, capacity, window, lba, n, runs, e)
		}
		return
	}
	wantLba, wantN, wantRuns := plainRichest(l, capacity, window)
	if lba != wantLba || n != wantN || runs != wantRuns || e != api.OK {
		t.Errorf("P15.1: %s: Richest(%v, %d, %d): %d, %d, %d, %d; want %d, %d, %d", name, l, capacity, window, lba, n, runs, e, wantLba, wantN, wantRuns)
	}
	many, _ := Many(l, capacity, window)
	if len(many) == 0 || runs != slices.Max(many) || slices.Index(many, runs)*window != lba {
		t.Errorf("P15.3: %s: Richest(%v, %d, %d): %d, %d, %d; Many: %v", name, l, capacity, window, lba, n, runs, many)
	}
	if len(l) > 2*len(many) && runs < 3 {
		t.Errorf("P15.3: %s: Richest(%v, %d, %d): %d of %d runs in %d windows", name, l, capacity, window, runs, len(l), len(many))
	}
}

// wantHoles asks Holes, and tells whether it answered.
func wantHoles(t *testing.T, name string, l []api.Run, lba, n int) bool {
	t.Helper()
	takes := takesHoles(l, lba, n)
	hemmed(t, name, l, api.Piece(strange), func(l []api.Run) []api.Piece {
		holes, e := Holes(l, lba, n)
		switch {
		case takes && (e != api.OK || !slices.Equal(holes, plainHoles(l, lba, n))):
			t.Errorf("P15.2: %s: Holes(%v, %d, %d): %v, %d; want %v", name, l, lba, n, holes, e, plainHoles(l, lba, n))
		case !takes && (e != api.EARG || len(holes) > 0):
			t.Errorf("P15.2: %s: Holes(%v, %d, %d): %v, %d; want EARG", name, l, lba, n, holes, e)
		}
		for i, h := range holes {
			if h.Len < 1 || h.Phys != -1 || h.Lba < lba || h.Lba+h.Len > lba+n || i > 0 && h.Lba <= holes[i-1].Lba+holes[i-1].Len {
				t.Errorf("P15.2: %s: Holes(%v, %d, %d): %v: not in order, or not in the fewest pieces", name, l, lba, n, holes)
			}
		}
		return holes
	})
	return takes
}
