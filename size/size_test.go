package size

import (
	"math"
	"slices"
	"testing"

	"ferrule/api"
)

var _ func(api.Config) (Sizes, api.Errno) = Of
var _ func(api.Config) bool = Good
var _ func(api.Config, int) (int, api.Errno) = Rewrites
var _ func(api.Config, int, int) (int, api.Errno) = CallPrograms
var _ func(api.Config) (int, api.Errno) = Greatest

// usual is the Config of the examples.
var usual = config(40, 8, 48, 2, 48, 8)

// The examples of chapter 16.
func TestExamples(t *testing.T) {
	want := Sizes{RunBytes: 4, SnapPages: 7, OpsMost: 14, OpBytes: 4, RecPages: 2, LogPages: 19, EpochBlocks: 4, MetaBlocks: 8, Windows: 6, Slack: 22, MountReads: 168}
	if s, e := Of(usual); s != want || e != api.OK {
		t.Errorf("P16.1: Of(%v): %+v, %d; want %+v", usual, s, e, want)
	}
	if !Good(usual) || Good(with(usual, "MaxRuns", 45)) || Good(with(usual, "Window", 9)) {
		t.Errorf("P16.1: Good of %v, with 45 runs, with a window of 9: not true, false, false", usual)
	}
	if n, e := Rewrites(usual, 1); n != 8 || e != api.OK {
		t.Errorf("P16.2: Rewrites(%v, 1): %d, %d; want 8", usual, n, e)
	}
	if n, e := CallPrograms(usual, 1, 0); n != 570 || e != api.OK {
		t.Errorf("P16.2: CallPrograms(%v, 1, 0): %d, %d; want 570", usual, n, e)
	}
	if n, e := CallPrograms(usual, 48, 0); n != 1098 || e != api.OK {
		t.Errorf("P16.2: CallPrograms(%v, 48, 0): %d, %d; want 1098", usual, n, e)
	}
	for _, capacity := range append([]int{-1, 0, 1, 7, 8, 47, 48, 49, 512, 513}, ends...) {
		if n, e := Greatest(with(usual, "Capacity", capacity)); n != 48 || e != api.OK {
			t.Errorf("P16.2: Greatest of %v with the capacity %d: %d, %d; want 48", usual, capacity, n, e)
		}
	}
}

// Sizes that were reckoned apart from this program: at the ends of all spans, and
// where a number has a byte more than the one ahead of it.
func TestKnownSizes(t *testing.T) {
	for _, k := range []struct {
		c    api.Config
		want Sizes
		good bool
	}{
		{config(8, 4, 1, 0, 1, 1), Sizes{3, 1, 8, 3, 1, 7, 2, 6, 1, 9, 40}, false},
		{config(64, 32, 512, 4, 512, 32), Sizes{6, 97, 40, 6, 8, 145, 8, 15, 16, 40, 960}, false},
		{config(8, 4, 512, 4, 512, 1), Sizes{5, 81, 136, 5, 22, 129, 53, 77, 512, 152, 480}, false},
		{config(64, 32, 512, 0, 88, 32), Sizes{6, 17, 36, 6, 7, 63, 3, 7, 16, 24, 384}, true},
		{config(15, 9, 3, 0, 13, 3), Sizes{4, 2, 13, 4, 2, 15, 2, 6, 1, 9, 87}, true},
		{config(9, 7, 127, 1, 127, 7), Sizes{3, 12, 24, 5, 4, 27, 6, 11, 19, 31, 135}, false},
		{config(16, 4, 128, 1, 128, 4), Sizes{6, 25, 37, 6, 7, 43, 17, 27, 32, 44, 176}, false},
		{config(31, 4, 63, 0, 127, 3), Sizes{4, 16, 20, 4, 3, 26, 11, 18, 21, 24, 135}, false},
		{config(8, 8, 64, 0, 128, 8), Sizes{4, 17, 12, 5, 2, 29, 6, 12, 8, 16, 136}, false},
	} {
		if s, e := Of(k.c); s != k.want || e != api.OK {
			t.Errorf("P16.1: Of(%v): %+v, %d; want %+v", k.c, s, e, k.want)
		}
		if got := wantSizes(t, "known", k.c); got != k.good {
			t.Errorf("P16.1: %v: the plain form says %v", k.c, got)
		}
	}
}

// Each number about the ends of its span, and at the ends of int, the others as
// they may be.
func TestSpans(t *testing.T) {
	for _, k := range []struct {
		number      string
		c           api.Config
		least, most int
	}{
		{"Blocks", usual, 8, 64},
		{"Pages", with(usual, "Window", 1), 4, 32},
		{"Pages", with(usual, "Window", 4), 4, 32},
		{"Pages", with(usual, "Window", 5), 5, 32},
		{"Pages", with(config(64, 32, 512, 0, 88, 32), "Blocks", 63), 32, 32},
		{"Spare", usual, 0, 4},
		{"Capacity", with(usual, "Window", 1), 1, 512},
		{"Capacity", with(usual, "Window", 2), 2, 512},
		{"Capacity", usual, 8, 512},
		{"Capacity", config(64, 32, 512, 0, 88, 32), 32, 512},
		{"Window", usual, 1, 8},
		{"Window", with(usual, "Capacity", 9), 1, 8},
		{"Window", with(usual, "Capacity", 8), 1, 8},
		{"Window", with(usual, "Capacity", 7), 1, 7},
		{"Window", with(usual, "Capacity", 2), 1, 2},
		{"Window", with(usual, "Capacity", 1), 1, 1},
		{"Window", with(usual, "Pages", 4), 1, 4},
		{"Window", config(64, 32, 512, 0, 88, 32), 1, 32},
		{"Window", config(64, 32, 31, 0, 88, 32), 1, 31},
		{"MaxRuns", usual, 1, 512},
		{"MaxRuns", config(64, 32, 512, 0, 88, 32), 1, 512},
	} {
		for _, v := range append([]int{-2, -1, 0, 1, k.least - 1, k.least, k.least + 1, k.most - 1, k.most, k.most + 1, 2 * k.most, 513}, ends...) {
			c := with(k.c, k.number, v)
			in := v >= k.least && v <= k.most
			if plainSpans(c) != in {
				t.Fatalf("%s of %v: the plain form tells otherwise", k.number, c)
			}
			s, e := Of(c)
			if in != (e == api.OK) || !in && (e != api.EARG || s != Sizes{}) {
				t.Errorf("P16.1: %s %d: Of(%v): %+v, %d", k.number, v, c, s, e)
			}
			if !in && Good(c) {
				t.Errorf("P16.1: %s %d: Good(%v)", k.number, v, c)
			}
			wantSizes(t, k.number, c)
			wantCall(t, k.number, c, 1, 0)
		}
	}
}

// Each two numbers at the ends of int, or just out of their spans: no call panics.
func TestTwoOutOfSpans(t *testing.T) {
	for i, one := range numbers {
		for _, other := range numbers[i+1:] {
			for _, v := range append([]int{-1, 0, 3, 5, 7, 9, 33, 65, 513}, ends...) {
				for _, w := range append([]int{-1, 0, 3, 5, 7, 9, 33, 65, 513}, ends...) {
					c := with(with(usual, one, v), other, w)
					wantSizes(t, one+" and "+other, c)
					wantCall(t, one+" and "+other, c, 1, 0)
					wantCall(t, one+" and "+other, c, w, v)
				}
			}
		}
	}
	for _, v := range ends {
		wantSizes(t, "all", config(v, v, v, v, v, v))
		wantCall(t, "all", config(v, v, v, v, v, v), v, v)
	}
	if s, e := Of(api.Config{}); s != (Sizes{}) || e != api.EARG || Good(api.Config{}) {
		t.Errorf("P16.1: of a Config of noughts: %+v, %d", s, e)
	}
}

// Each line of what may be by itself: at it, past it, the other lines with room.
func TestLines(t *testing.T) {
	for _, k := range []struct {
		name string
		c    api.Config
		want room
	}{
		{"runs enough", with(usual, "MaxRuns", 46), room{0, 40, 167}},
		{"one run too few", with(usual, "MaxRuns", 45), room{-1, 40, 167}},
		{"runs enough, with room elsewhere", config(64, 32, 512, 0, 88, 32), room{0, 32, 1663}},
		{"one run too few, with room elsewhere", config(64, 32, 512, 0, 87, 32), room{-1, 32, 1663}},
		{"far too few runs", with(usual, "MaxRuns", 1), room{-45, 48, 183}},
		{"sectors up to the end", with(usual, "Blocks", 36), room{2, 0, 123}},
		{"a block too few", with(usual, "Blocks", 35), room{2, -8, 116}},
		{"three sectors in one block", config(15, 9, 3, 0, 13, 3), room{0, 0, 47}},
		{"a page too few", config(15, 8, 3, 0, 13, 3), room{0, -1, 40}},
		{"512 sectors up to the end", config(63, 32, 512, 0, 88, 32), room{0, 0, 1632}},
		{"no block for sectors", config(14, 8, 1, 0, 13, 1), room{0, -3, 33}},
		{"fewer blocks than none", config(9, 10, 1, 0, 13, 1), room{0, -53, 0}},
		{"all pages but one", config(19, 4, 1, 0, 46, 1), room{33, 1, 0}},
		{"all pages", config(20, 5, 1, 0, 64, 1), room{51, 2, -1}},
		{"a page more than all", config(19, 6, 1, 2, 46, 1), room{25, 3, -2}},
	} {
		if got := plainRoom(k.c); got != k.want {
			t.Fatalf("%s: %v: the plain form: %+v; want %+v", k.name, k.c, got, k.want)
		}
		want := k.want.runs >= 0 && k.want.data >= 0 && k.want.mount >= 0
		if Good(k.c) != want {
			t.Errorf("P16.1: %s: Good(%v): %v", k.name, k.c, !want)
		}
		wantSizes(t, k.name, k.c)
	}
}

// Calls that were reckoned apart from this program.
func TestKnownCalls(t *testing.T) {
	great := config(64, 32, 512, 0, 88, 32)
	small := config(15, 9, 3, 0, 13, 3)
	for _, k := range []struct {
		c                    api.Config
		n, f, anew, programs int
	}{
		{usual, 1, 1, 8, 602}, {usual, 1, 1000, 8, 32570}, {usual, 8, 0, 8, 598}, {usual, 9, 0, 9, 670}, {usual, 48, 1000, 13, 33098},
		{great, 1, 0, 4, 1354}, {great, 32, 0, 4, 1478}, {great, 33, 1, 5, 1864}, {great, 512, 0, 19, 7208}, {great, 512, 1000, 19, 135208},
		{small, 1, 0, 4, 236}, {small, 3, 0, 4, 244}, {small, 3, 1000, 4, 36244}, {config(19, 4, 1, 0, 46, 1), 1, 0, 4, 152},
	} {
		if got, e := Rewrites(k.c, k.n); got != k.anew || e != api.OK {
			t.Errorf("P16.2: Rewrites(%v, %d): %d, %d; want %d", k.c, k.n, got, e, k.anew)
		}
		if got, e := CallPrograms(k.c, k.n, k.f); got != k.programs || e != api.OK {
			t.Errorf("P16.2: CallPrograms(%v, %d, %d): %d, %d; want %d", k.c, k.n, k.f, got, e, k.programs)
		}
		wantCall(t, "known", k.c, k.n, k.f)
	}
}

// Sectors and failures about their ends, of Configs that may be.
func TestCallEdges(t *testing.T) {
	for _, c := range []api.Config{usual, config(64, 32, 512, 0, 88, 32), config(15, 9, 3, 0, 13, 3), config(19, 4, 1, 0, 46, 1), with(usual, "Spare", 0)} {
		if !plainGood(c) {
			t.Fatalf("%v may not be", c)
		}
		sectors := append([]int{-c.Capacity, -1, 0, 1, 2, c.Capacity - 1, c.Capacity, c.Capacity + 1, 512, 513, 1<<32 + 1}, ends...)
		fails := append([]int{-1000, -1, 0, 1, 2, 999, 1000, 1001, 1002, 2000, 1<<32 + 1}, ends...)
		for _, n := range sectors {
			for _, f := range fails {
				wantCall(t, "edges", c, n, f)
				a, e := Rewrites(c, n)
				p, g := CallPrograms(c, n, f)
				rightN, rightF := n >= 1 && n <= c.Capacity, f >= 0 && f <= 1000
				if rightN != (e == api.OK) || rightN != (a > 0) || !rightN && e != api.EARG {
					t.Errorf("P16.2: Rewrites(%v, %d): %d, %d", c, n, a, e)
				}
				if (rightN && rightF) != (g == api.OK) || (rightN && rightF) != (p > 0) || !(rightN && rightF) && g != api.EARG {
					t.Errorf("P16.2: CallPrograms(%v, %d, %d): %d, %d", c, n, f, p, g)
				}
			}
		}
	}
}

// A Config that may not be, by each line of what may be, whatever the call.
func TestCallsOfNone(t *testing.T) {
	none := []api.Config{
		{}, with(usual, "MaxRuns", 45), with(usual, "Blocks", 35), config(9, 10, 1, 0, 13, 1), config(20, 5, 1, 0, 64, 1), config(19, 6, 1, 2, 46, 1),
		with(usual, "Window", 9), with(usual, "Window", 0), with(usual, "Capacity", 7), with(usual, "Capacity", 49), with(usual, "Capacity", 513),
		with(usual, "Blocks", 65), with(usual, "Pages", 33), with(usual, "Spare", -1), with(usual, "Spare", 5), with(usual, "MaxRuns", 513),
	}
	for _, c := range none {
		for _, n := range []int{-1, 0, 1, 2, c.Capacity, c.Capacity + 1, math.MaxInt} {
			for _, f := range []int{-1, 0, 1, 1000, 1001} {
				a, e := Rewrites(c, n)
				p, g := CallPrograms(c, n, f)
				if a != 0 || e != api.EARG || p != 0 || g != api.EARG {
					t.Errorf("P16.2: %v may not be: of %d, %d: %d, %d; %d, %d", c, n, f, a, e, p, g)
				}
			}
		}
	}
}

// More sectors, or more failures, never fewer programs: each n, and each f.
func TestMoreIsNeverLess(t *testing.T) {
	for _, c := range []api.Config{usual, config(40, 8, 48, 2, 56, 7), with(usual, "Pages", 9), config(64, 32, 512, 0, 88, 32), config(64, 31, 400, 1, 120, 29)} {
		if !Good(c) {
			t.Fatalf("%v may not be", c)
		}
		lastAnew, lastPrograms := 0, 0
		for n := 1; n <= c.Capacity; n++ {
			wantCall(t, "each n", c, n, n)
			anew, _ := Rewrites(c, n)
			programs, _ := CallPrograms(c, n, 3)
			if anew < lastAnew || programs <= lastPrograms {
				t.Errorf("P16.2: %v: %d sectors: %d, %d; one less: %d, %d", c, n, anew, programs, lastAnew, lastPrograms)
			}
			lastAnew, lastPrograms = anew, programs
		}
		for _, n := range []int{1, c.Pages, c.Capacity} {
			last := 0
			for f := range 1001 {
				programs, e := CallPrograms(c, n, f)
				if e != api.OK || programs <= last || f > 0 && programs-last != 4*c.Pages {
					t.Errorf("P16.2: CallPrograms(%v, %d, %d): %d, %d; one failure less: %d", c, n, f, programs, e, last)
				}
				last = programs
			}
		}
	}
}

// anyCapacity are capacities that Greatest may find in a Config.
var anyCapacity = append([]int{-513, -1, 0, 1, 2, 7, 8, 48, 49, 511, 512, 513, 1<<32 + 48}, ends...)

// Greatest where it is known.
func TestKnownGreatest(t *testing.T) {
	great := config(64, 32, 512, 0, 88, 32)
	for _, k := range []struct {
		name string
		c    api.Config
		want int
	}{
		{"the limit", great, 512},
		{"the limit, no block to spare", with(great, "Blocks", 63), 512},
		{"a block less", with(great, "Blocks", 62), 501},
		{"a run less", with(great, "MaxRuns", 87), 480},
		{"just one sector", config(19, 4, 1, 0, 46, 1), 1},
		{"just three", config(15, 9, 3, 0, 13, 3), 3},
		{"just the window", config(15, 9, 3, 0, 13, 2), 2},
		{"one less than the window", config(15, 9, 3, 0, 13, 4), 0},
		{"runs for no window", with(usual, "MaxRuns", 20), 0},
		{"runs for one window", with(usual, "MaxRuns", 21), 8},
		{"no block for sectors", config(14, 8, 1, 0, 13, 1), 0},
		{"all pages", config(20, 5, 1, 0, 64, 1), 0},
	} {
		wantE := api.OK
		if k.want == 0 {
			wantE = api.EARG
		}
		for _, capacity := range anyCapacity {
			if got, e := Greatest(with(k.c, "Capacity", capacity)); got != k.want || e != wantE {
				t.Errorf("P16.2: %s: Greatest(%v): %d, %d; want %d, %d", k.name, with(k.c, "Capacity", capacity), got, e, k.want, wantE)
			}
		}
		wantGreatest(t, k.name, k.c)
	}
}

// Greatest with another number out of its span: no capacity makes it good, and the
// call ends, whatever the window.
func TestGreatestOutOfSpans(t *testing.T) {
	for number, wrong := range map[string][]int{
		"Blocks": {-1, 0, 7, 65}, "Pages": {-1, 0, 3, 7, 33}, "Spare": {-1, 5}, "MaxRuns": {-1, 0, 513}, "Window": {-1, 0, 9, 48, 512, 513},
	} {
		for _, v := range slices.Concat(wrong, ends) {
			c := with(usual, number, v)
			for _, capacity := range anyCapacity {
				c.Capacity = capacity
				if got, e := Greatest(c); got != 0 || e != api.EARG {
					t.Errorf("P16.2: Greatest(%v): %d, %d", c, got, e)
				}
			}
		}
	}
}
