package window

import (
	"math"
	"slices"
	"testing"

	"ferrule/api"
)

var _ func([]api.Run, int, int) ([]int, api.Errno) = Many
var _ func([]api.Run, int, int) (int, int, int, api.Errno) = Richest
var _ func([]api.Run, int, int) ([]api.Piece, api.Errno) = Holes

// The examples of chapter 15.
func TestExamples(t *testing.T) {
	l := runList(0, 1, 5, 2, 1, 9, 3, 3, 20)
	if many, e := Many(l, 8, 4); e != api.OK || !slices.Equal(many, []int{3, 1}) {
		t.Errorf("P15.1: %v, %d", many, e)
	}
	if lba, n, runs, e := Richest(l, 8, 4); lba != 0 || n != 4 || runs != 3 || e != api.OK {
		t.Errorf("P15.1: %d, %d, %d, %d", lba, n, runs, e)
	}
	if holes, e := Holes(l, 0, 8); e != api.OK || !slices.Equal(holes, []api.Piece{{Lba: 1, Len: 1, Phys: -1}, {Lba: 6, Len: 2, Phys: -1}}) {
		t.Errorf("P15.2: %v, %d", holes, e)
	}
	if holes, e := Holes(l, 2, 2); e != api.OK || len(holes) > 0 {
		t.Errorf("P15.2: %v, %d", holes, e)
	}
}

// Answers that are written out here: the plain forms are held against them, too.
func TestKnownWindows(t *testing.T) {
	three := runList(0, 1, 5, 2, 1, 9, 3, 3, 20)
	for _, k := range []struct {
		name             string
		l                []api.Run
		capacity, window int
		many             []int
		lba, n, runs     int
	}{
		{"no runs", nil, 5, 2, []int{0, 0, 0}, 0, 2, 0},
		{"no runs, and not nil", []api.Run{}, 4, 2, []int{0, 0}, 0, 2, 0},
		{"no runs, one sector", nil, 1, 1, []int{0}, 0, 1, 0},
		{"one sector", runList(0, 1, 0), 1, 1, []int{1}, 0, 1, 1},
		{"one run through all windows", runList(0, 8, 0), 8, 2, []int{1, 1, 1, 1}, 0, 2, 1},
		{"one run through several windows", runList(3, 6, 7), 12, 3, []int{0, 1, 1, 0}, 3, 3, 1},
		{"it begins and ends within windows", runList(2, 6, 7), 12, 3, []int{1, 1, 1, 0}, 0, 3, 1},
		{"several runs in one window", runList(4, 1, 0, 5, 1, 0, 7, 1, 3), 12, 4, []int{0, 3, 0}, 4, 4, 3},
		{"a run that ends where a window ends", runList(2, 2, 9), 8, 4, []int{1, 0}, 0, 4, 1},
		{"a run that ends one behind it", runList(2, 3, 9), 8, 4, []int{1, 1}, 0, 4, 1},
		{"a run that begins where a window begins", runList(4, 2, 9), 8, 4, []int{0, 1}, 4, 4, 1},
		{"a run that begins one ahead of it", runList(3, 2, 9), 8, 4, []int{1, 1}, 0, 4, 1},
		{"a run that is a window", runList(4, 4, 9), 12, 4, []int{0, 1, 0}, 4, 4, 1},
		{"two that meet where windows do", runList(2, 2, 9, 4, 2, 9), 8, 4, []int{1, 1}, 0, 4, 1},
		{"the last window has fewer", three, 7, 3, []int{2, 1, 0}, 0, 3, 2},
		{"the last window has one, and a run", three, 6, 5, []int{3, 1}, 0, 5, 3},
		{"the last window is the richest", runList(6, 1, 0), 7, 3, []int{0, 0, 1}, 6, 1, 1},
		{"the last window is the richest, of two sectors", runList(2, 1, 0, 6, 1, 0, 7, 1, 5), 8, 3, []int{1, 0, 2}, 6, 2, 2},
		{"one window of all", three, 8, 8, []int{3}, 0, 8, 3},
		{"windows of one sector", three, 8, 1, []int{1, 0, 1, 1, 1, 1, 0, 0}, 0, 1, 1},
		{"of several the first one", runList(0, 1, 0, 3, 1, 0, 4, 1, 0, 6, 1, 0, 7, 1, 0), 9, 3, []int{1, 2, 2}, 3, 3, 2},
		{"of several the first one, in the middle a poorer one", runList(0, 1, 0, 1, 1, 0, 3, 1, 0, 4, 1, 0), 6, 2, []int{2, 1, 1}, 0, 2, 2},
		{"the richest one is the second", runList(0, 3, 0, 3, 1, 0, 5, 1, 0), 6, 2, []int{1, 2, 1}, 2, 2, 2},
		{"more runs than twice as many windows", runList(0, 1, 0, 1, 1, 0, 2, 1, 0, 3, 1, 0, 4, 1, 0), 6, 3, []int{3, 2}, 0, 3, 3},
		{"just twice as many", runList(0, 1, 0, 1, 1, 0, 3, 1, 0, 4, 1, 0), 6, 3, []int{2, 2}, 0, 3, 2},
	} {
		many, e := Many(k.l, k.capacity, k.window)
		if e != api.OK || !slices.Equal(many, k.many) {
			t.Errorf("P15.1: %s: Many: %v, %d; want %v", k.name, many, e, k.many)
		}
		lba, n, runs, e := Richest(k.l, k.capacity, k.window)
		if lba != k.lba || n != k.n || runs != k.runs || e != api.OK {
			t.Errorf("P15.1: %s: Richest: %d, %d, %d, %d; want %d, %d, %d", k.name, lba, n, runs, e, k.lba, k.n, k.runs)
		}
		if !wantMany(t, k.name, k.l, k.capacity, k.window) {
			t.Fatalf("%s: the plain form does not take it", k.name)
		}
	}
}

// Answers that are written out here: the plain forms are held against them, too.
func TestKnownHoles(t *testing.T) {
	three := runList(10, 5, 0, 15, 2, 9, 20, 10, 5)
	for _, k := range []struct {
		name   string
		l      []api.Run
		lba, n int
		want   []api.Piece
	}{
		{"no runs, all", nil, 0, 512, holeList(0, 512)},
		{"no runs, and not nil", []api.Run{}, 3, 4, holeList(3, 4)},
		{"no runs, the last sector", nil, 511, 1, holeList(511, 1)},
		{"a range with no run, ahead of all", three, 2, 5, holeList(2, 5)},
		{"ahead of all, up to the first", three, 2, 8, holeList(2, 8)},
		{"a range with no run, behind all", three, 40, 2, holeList(40, 2)},
		{"behind all, from the last one's end on", three, 30, 482, holeList(30, 482)},
		{"a range with no run, between two", three, 18, 1, holeList(18, 1)},
		{"all that is between two", three, 17, 3, holeList(17, 3)},
		{"within a run", three, 11, 2, nil},
		{"one sector of a run", three, 29, 1, nil},
		{"just a run", three, 20, 10, nil},
		{"just two, one behind the other", three, 10, 7, nil},
		{"it goes from one into the next", three, 14, 2, nil},
		{"it begins within a run", three, 12, 7, holeList(17, 2)},
		{"it ends within a run", three, 8, 4, holeList(8, 2)},
		{"both", three, 14, 8, holeList(17, 3)},
		{"it begins and ends in holes", three, 9, 10, holeList(9, 1, 17, 2)},
		{"one sector more at both ends", three, 9, 22, holeList(9, 1, 17, 3, 30, 1)},
		{"all of it", three, 0, 512, holeList(0, 10, 17, 3, 30, 482)},
		{"a run of all", runList(0, 512, 7), 0, 512, nil},
		{"all but the first sector", runList(1, 511, 7), 0, 512, holeList(0, 1)},
		{"all but the last sector", runList(0, 511, 7), 0, 512, holeList(511, 1)},
		{"the far page", runList(2, 1, 1<<30, 3, 1, 0), 0, 5, holeList(0, 2, 4, 1)},
	} {
		if holes, e := Holes(k.l, k.lba, k.n); e != api.OK || !slices.Equal(holes, k.want) {
			t.Errorf("P15.2: %s: Holes(%v, %d, %d): %v, %d; want %v", k.name, k.l, k.lba, k.n, holes, e, k.want)
		}
		if !wantHoles(t, k.name, k.l, k.lba, k.n) {
			t.Fatalf("%s: the plain form does not take it", k.name)
		}
	}
}

// The capacity and the window: within their limits, at them, past them.
func TestSizes(t *testing.T) {
	capacities := append([]int{-1, 0, 1, 2, 3, 511, 512, 513, 514, 1024, 1<<32 + 512}, ends...)
	taken := 0
	for _, c := range capacities {
		for _, w := range append([]int{-1, 0, 1, 2, c - 1, c, c + 1, 511, 512, 513, 1<<32 + 1}, ends...) {
			want := c >= 1 && c <= 512 && w >= 1 && w <= c
			for _, l := range [][]api.Run{nil, {}, runList(0, 1, 0)} {
				if wantMany(t, "sizes", l, c, w) != want {
					t.Fatalf("the plain form tells otherwise of %d, %d", c, w)
				}
			}
			many, e := Many(nil, c, w)
			if want {
				taken++
			}
			if want && (e != api.OK || (len(many)-1)*w >= c || len(many)*w < c) {
				t.Errorf("P15.1: Many(nil, %d, %d): %v, %d", c, w, many, e)
			}
		}
	}
	if taken < 20 {
		t.Errorf("%d sizes were taken", taken)
	}
}

// Every capacity, with windows from one sector each up to one window of all.
func TestEveryCapacity(t *testing.T) {
	d := dice(15)
	for c := 1; c <= 512; c++ {
		for _, w := range []int{1, 2, 3, c / 3, c / 2, c/2 + 1, c - 1, c} {
			l := d.runs(1+d.roll(c), c)
			if w >= 1 && w <= c && !wantMany(t, "every capacity", l, c, w) {
				t.Fatalf("the plain form does not take %v of %d, %d", l, c, w)
			}
		}
	}
}

// A run that ends at the capacity, and one sector behind it.
func TestEndsAtCapacity(t *testing.T) {
	for _, c := range []int{1, 2, 3, 7, 8, 100, 511, 512} {
		for _, w := range []int{1, 2, 3, 8, c} {
			for n := 1; n <= min(c, 12); n++ {
				at, behind, longer := runList(c-n, n, 5), runList(c-n+1, n, 5), runList(c-n, n+1, 5)
				if wantMany(t, "at", at, c, w) != (w <= c) || wantMany(t, "behind", behind, c, w) || wantMany(t, "longer", longer, c, w) {
					t.Fatalf("the plain form tells otherwise of %d, %d", c, w)
				}
			}
			for _, far := range [][]api.Run{runList(c, 1, 5), runList(c+1, 1, 5), runList(c+w, 1, 5), runList(0, c+1, 5), runList(0, 1, 9, c, 1, 5), runList(512, 1, 5)} {
				if wantMany(t, "far", far, c, w) {
					t.Fatalf("the plain form takes %v of %d, %d", far, c, w)
				}
			}
		}
	}
}

// Ranges that are right for the capacity MaxCapacity, and ranges that are not.
func TestRanges(t *testing.T) {
	lbas := append([]int{-512, -1, 0, 1, 2, 255, 510, 511, 512, 513, 1<<30 - 1, 1 << 30}, ends...)
	taken := 0
	for _, lba := range lbas {
		for _, n := range append([]int{-512, -1, 0, 1, 2, 3, 257, 510, 511, 512, 513, 514, 512 - lba, 513 - lba, math.MaxInt - 511, 1 << 30, 1<<32 + 512}, ends...) {
			for _, l := range [][]api.Run{nil, runList(0, 512, 0), runList(1, 1, 4, 511, 1, 0), runList(0, 2, 1<<30)} {
				if wantHoles(t, "ranges", l, lba, n) {
					taken++
				}
			}
		}
	}
	if taken < 80 || taken > 200 {
		t.Errorf("%d ranges were taken", taken)
	}
	for _, k := range [][2]int{
		{-1, 1}, {-1, 2}, {-1, 512}, {0, 0}, {0, -1}, {0, 513}, {1, 512}, {511, 2}, {512, 0}, {512, 1}, {512, -1}, {513, -1}, {math.MaxInt, 1}, {1, math.MaxInt},
		{math.MaxInt, math.MaxInt}, {math.MinInt, 1}, {math.MinInt, math.MinInt}, {math.MinInt, math.MaxInt}, {0, math.MinInt}, {0, math.MaxInt}, {-1, math.MinInt},
	} {
		if holes, e := Holes(runList(1, 1, 4), k[0], k[1]); e != api.EARG || len(holes) > 0 {
			t.Errorf("P15.2: Holes of %d, %d: %v, %d", k[0], k[1], holes, e)
		}
	}
}

// Ranges from each sector on.
func TestHolesOfEveryRange(t *testing.T) {
	l := runList(0, 1, 5, 2, 1, 9, 3, 3, 20, 9, 3, 2, 500, 5, 7, 505, 5, 7, 511, 1, 0)
	for lba := range 512 {
		for _, n := range []int{1, 2, 3, 4, 7, 10, 100, 500, 511 - lba, 512 - lba, 513 - lba} {
			if wantHoles(t, "every range", l, lba, n) != (n >= 1 && lba+n <= 512) {
				t.Fatalf("the plain form tells otherwise of %d, %d", lba, n)
			}
		}
	}
}

// As many runs as may be, and one more.
func TestManyRuns(t *testing.T) {
	for _, w := range []int{1, 2, 3, 16, 100, 256, 511, 512} {
		for _, n := range []int{510, 511, 512, 513, 514, 1024, 100000} {
			l := single(n, 0)
			if wantMany(t, "single", l, 512, w) != (n <= 512) || wantHoles(t, "single", l, 0, 512) != (n <= 512) {
				t.Fatalf("the plain form tells otherwise of %d runs", n)
			}
		}
	}
	if many, e := Many(single(512, 0), 512, 100); e != api.OK || !slices.Equal(many, []int{100, 100, 100, 100, 100, 12}) {
		t.Errorf("P15.1: 512 runs: %v, %d", many, e)
	}
	if holes, e := Holes(single(512, 0), 0, 512); e != api.OK || len(holes) > 0 {
		t.Errorf("P15.2: 512 runs: %v, %d", holes, e)
	}
	var apart []api.Run
	for i := range 256 {
		apart = append(apart, api.Run{Lba: 2*i + 1, Len: 1, Phys: i})
	}
	if holes, e := Holes(apart, 0, 512); e != api.OK || len(holes) != 256 || holes[255] != (api.Piece{Lba: 510, Len: 1, Phys: -1}) {
		t.Errorf("P15.2: 256 runs: %v, %d", holes, e)
	}
	wantHoles(t, "apart", apart, 0, 512)
}

// With an error all else is zero.
func TestZeroWithAnError(t *testing.T) {
	l := runList(0, 1, 5, 1, 1, 5)
	for name, bad := range map[string]struct {
		l                []api.Run
		capacity, window int
	}{
		"capacity": {l, 513, 4}, "window": {l, 8, 9}, "form": {runList(1, 1, 5, 0, 1, 5), 8, 4}, "end": {l, 1, 1}, "many": {single(513, 0), 512, 4},
	} {
		if many, e := Many(bad.l, bad.capacity, bad.window); len(many) > 0 || e != api.EARG {
			t.Errorf("R2: %s: Many: %v, %d", name, many, e)
		}
		if lba, n, runs, e := Richest(bad.l, bad.capacity, bad.window); lba != 0 || n != 0 || runs != 0 || e != api.EARG {
			t.Errorf("R2: %s: Richest: %d, %d, %d, %d", name, lba, n, runs, e)
		}
	}
	for name, bad := range map[string]struct {
		l      []api.Run
		lba, n int
	}{
		"range": {l, 4, 509}, "form": {runList(5, 1, 5, 0, 1, 5), 0, 8}, "end": {runList(0, 1, 5, 508, 5, 5), 0, 8}, "many": {single(513, 0), 0, 8},
	} {
		if holes, e := Holes(bad.l, bad.lba, bad.n); len(holes) > 0 || e != api.EARG {
			t.Errorf("R2: %s: Holes: %v, %d", name, holes, e)
		}
	}
}
