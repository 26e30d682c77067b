package blocks

import (
	"math"
	"slices"
	"testing"

	"ferrule/api"
)

var _ func([]api.Run, int, int) ([]int, api.Errno) = Valid
var _ func([]int, []bool) (int, bool) = Victim
var _ func([]api.Run, int, int) ([]api.Run, api.Errno) = Moves
var _ func([]api.Run, int) ([]api.Run, api.Errno) = Split

// The examples of chapter 13.
func TestExamples(t *testing.T) {
	l := runList(0, 3, 6, 5, 2, 2)
	if v, e := Valid(l, 3, 4); e != api.OK || !slices.Equal(v, []int{2, 2, 1}) {
		t.Errorf("P13.1: %v, %d", v, e)
	}
	if v, e := Valid(l, 2, 4); e != api.EARG || len(v) > 0 {
		t.Errorf("P13.1: %v, %d", v, e)
	}
	if p, e := Split(l, 4); e != api.OK || !slices.Equal(p, runList(0, 2, 6, 2, 1, 8, 5, 2, 2)) {
		t.Errorf("P13.3: %v, %d", p, e)
	}
	if p, e := Moves(l, 0, 4); e != api.OK || !slices.Equal(p, runList(5, 2, 2)) {
		t.Errorf("P13.3: %v, %d", p, e)
	}
	if p, e := Moves(l, 1, 4); e != api.OK || !slices.Equal(p, runList(0, 2, 6)) {
		t.Errorf("P13.3: %v, %d", p, e)
	}
	all := []bool{true, true, true}
	if b, ok := Victim([]int{2, 2, 1}, all); b != 2 || !ok {
		t.Errorf("P13.2: %d, %v", b, ok)
	}
	if b, ok := Victim([]int{2, 2, 1}, []bool{true, true, false}); b != 0 || !ok {
		t.Errorf("P13.2: %d, %v", b, ok)
	}
	if b, ok := Victim(nil, nil); b != 0 || ok {
		t.Errorf("P13.2: %d, %v", b, ok)
	}
}

// Answers that are written out here: the plain forms are held against them, too.
func TestKnownAnswers(t *testing.T) {
	for _, k := range []struct {
		l             []api.Run
		blocks, pages int
		valid         []int
		parts         []api.Run
	}{
		{nil, 2, 3, []int{0, 0}, nil},
		{runList(7, 1, 0), 1, 1, []int{1}, runList(7, 1, 0)},
		{runList(0, 4, 4), 3, 4, []int{0, 4, 0}, runList(0, 4, 4)},
		{runList(0, 5, 4), 3, 4, []int{0, 4, 1}, runList(0, 4, 4, 4, 1, 8)},
		{runList(0, 5, 3), 3, 4, []int{1, 4, 0}, runList(0, 1, 3, 1, 4, 4)},
		{runList(3, 10, 2), 3, 4, []int{2, 4, 4}, runList(3, 2, 2, 5, 4, 4, 9, 4, 8)},
		{runList(0, 3, 1), 4, 1, []int{0, 1, 1, 1}, runList(0, 1, 1, 1, 1, 2, 2, 1, 3)},
		{runList(0, 2, 5, 2, 2, 5, 9, 2, 5), 2, 6, []int{3, 3}, runList(0, 1, 5, 1, 1, 6, 2, 1, 5, 3, 1, 6, 9, 1, 5, 10, 1, 6)},
		{runList(0, 2, 5, 3, 2, 7), 2, 16, []int{4, 0}, runList(0, 2, 5, 3, 2, 7)},
	} {
		if v, e := Valid(k.l, k.blocks, k.pages); e != api.OK || !slices.Equal(v, k.valid) || !slices.Equal(v, plainValid(k.l, k.blocks, k.pages)) {
			t.Errorf("P13.1: Valid(%v, %d, %d): %v, %d; want %v", k.l, k.blocks, k.pages, v, e, k.valid)
		}
		if p, e := Split(k.l, k.pages); e != api.OK || !slices.Equal(p, k.parts) || !slices.Equal(p, plainSplit(k.l, k.pages)) {
			t.Errorf("P13.3: Split(%v, %d): %v, %d; want %v", k.l, k.pages, p, e, k.parts)
		}
		for b := range 64 {
			want := slices.DeleteFunc(slices.Clone(k.parts), func(r api.Run) bool { return r.Phys/k.pages != b })
			if m, e := Moves(k.l, b, k.pages); e != api.OK || !slices.Equal(m, want) || !slices.Equal(m, plainMoves(k.l, b, k.pages)) {
				t.Errorf("P13.3: Moves(%v, %d, %d): %v, %d; want %v", k.l, b, k.pages, m, e, want)
			}
		}
	}
}

// How many blocks and pages: within their limits, at them, past them.
func TestValidSizes(t *testing.T) {
	blocks := append([]int{-1, 0, 1, 2, 32, 33, 63, 64, 65, 66, 128, 1<<32 + 64}, ends...)
	pages := append([]int{-1, 0, 1, 2, 31, 32, 33, 34, 64, 1<<32 + 32}, ends...)
	taken := 0
	for _, b := range blocks {
		for _, p := range pages {
			want := b >= 1 && b <= 64 && p >= 1 && p <= 32
			for _, l := range [][]api.Run{nil, {}, runList(0, 1, 0), runList(511, 1, 0)} {
				if wantValid(t, "sizes", l, b, p) != want {
					t.Fatalf("the plain form tells otherwise of %d blocks, %d pages", b, p)
				}
			}
			if v, e := Valid(nil, b, p); want && (e != api.OK || len(v) != b) {
				t.Errorf("P13.1: Valid(nil, %d, %d): %v, %d", b, p, v, e)
			}
			if want {
				taken++
			}
		}
	}
	if taken != 6*4 {
		t.Errorf("%d sizes were taken", taken)
	}
}

// A run that ends with the flash's last page, and one page behind it.
func TestValidLastPage(t *testing.T) {
	for b := 1; b <= 64; b++ {
		for p := 1; p <= 32; p++ {
			all := b * p
			for _, n := range []int{1, 2, p, p + 1, all - 1, all, 512} {
				if n < 1 || n > min(all, 512) {
					continue
				}
				if !wantValid(t, "the last page", runList(0, n, all-n), b, p) || wantValid(t, "one page behind", runList(0, n, all-n+1), b, p) {
					t.Fatalf("the plain form tells otherwise of %d pages at the end of %d", n, all)
				}
				if n < 512 && wantValid(t, "one page more", runList(0, n+1, all-n), b, p) {
					t.Fatalf("the plain form tells otherwise of %d pages at the end of %d", n+1, all)
				}
			}
			for _, phys := range append([]int{all, all + 1, all + 512, top}, ends...) {
				wantValid(t, "behind it", runList(0, 1, phys), b, p)
				wantValid(t, "behind it, the second run", runList(0, 1, 0, 2, 1, phys), b, p)
			}
		}
	}
}

// A page that is mapped twice, or still more often, counts as often.
func TestValidCountsEach(t *testing.T) {
	var l []api.Run
	for i := range 512 {
		l = append(l, api.Run{Lba: i, Len: 1, Phys: 7})
	}
	if v, e := Valid(l, 2, 4); e != api.OK || !slices.Equal(v, []int{0, 512}) {
		t.Errorf("P13.1: one page 512 times: %v, %d", v, e)
	}
	wantValid(t, "one page", l, 2, 4)
	wantValid(t, "twice, in part", runList(0, 3, 5, 4, 3, 6), 3, 3)
	wantValid(t, "twice, as neighbours", runList(0, 3, 5, 3, 3, 5), 3, 3)
	wantValid(t, "over several blocks, twice", runList(0, 9, 0, 9, 9, 0, 20, 7, 1), 3, 3)
	if v, e := Valid(runList(0, 512, 0), 64, 32); e != api.OK || v[0] != 32 || v[15] != 32 || v[16] != 0 {
		t.Errorf("P13.1: 512 pages: %v, %d", v, e)
	}
}

func TestVictim(t *testing.T) {
	yes, no := true, false
	for _, k := range []struct {
		name  string
		valid []int
		may   []bool
		want  int
		found bool
	}{
		{"none", nil, nil, 0, false},
		{"none, and not nil", []int{}, []bool{}, 0, false},
		{"no numbers", nil, []bool{yes, yes}, 0, false},
		{"no leave", []int{1, 2}, nil, 0, false},
		{"no leave, and not nil", []int{1, 2}, []bool{}, 0, false},
		{"no block allowed", []int{1, 2, 3}, []bool{no, no, no}, 0, false},
		{"the only one", []int{9}, []bool{yes}, 0, true},
		{"the only one allowed", []int{1, 9, 1}, []bool{no, yes, no}, 1, true},
		{"the last one allowed", []int{1, 1, 9}, []bool{no, no, yes}, 2, true},
		{"the least is not allowed", []int{5, 0, 4}, []bool{yes, no, yes}, 2, true},
		{"the same number: the first", []int{3, 2, 2, 2}, []bool{yes, yes, yes, yes}, 1, true},
		{"the same number: the first allowed", []int{2, 2, 2, 2}, []bool{no, no, yes, yes}, 2, true},
		{"all 0", []int{0, 0, 0}, []bool{yes, yes, yes}, 0, true},
		{"the least comes late", []int{9, 8, 7, 6}, []bool{yes, yes, yes, yes}, 3, true},
		{"the least comes first", []int{6, 7, 8, 9}, []bool{yes, yes, yes, yes}, 0, true},
		{"more numbers", []int{3, 2, 0, -9}, []bool{yes, yes}, 1, true},
		{"more leave", []int{3, 2}, []bool{no, yes, yes, yes}, 1, true},
		{"more leave, none of it of use", []int{3, 2}, []bool{no, no, yes, yes}, 0, false},
		{"more numbers, none of use", []int{3, 2, 1}, []bool{no, no}, 0, false},
		{"below 0", []int{0, -1, -3, -2}, []bool{yes, yes, yes, yes}, 2, true},
		{"the ends of int", []int{math.MaxInt, math.MinInt, 0}, []bool{yes, yes, yes}, 1, true},
		{"the ends of int, one alone", []int{math.MinInt, math.MaxInt, math.MinInt}, []bool{no, yes, no}, 1, true},
		{"all at the upper end", []int{math.MaxInt, math.MaxInt}, []bool{yes, yes}, 0, true},
		{"all at the upper end, the second", []int{math.MaxInt, math.MaxInt}, []bool{no, yes}, 1, true},
		{"all at the lower end", []int{math.MinInt, math.MinInt}, []bool{yes, yes}, 0, true},
		{"near the upper end", []int{math.MaxInt, math.MaxInt - 1}, []bool{yes, yes}, 1, true},
		{"near the lower end", []int{math.MinInt + 1, math.MinInt}, []bool{yes, yes}, 1, true},
	} {
		if b, ok := Victim(k.valid, k.may); b != k.want || ok != k.found {
			t.Errorf("P13.2: %s: %d, %v; want %d, %v", k.name, b, ok, k.want, k.found)
		}
		wantVictim(t, k.name, k.valid, k.may)
	}
}

// More blocks than a flash has.
func TestVictimOfMany(t *testing.T) {
	valid, may := make([]int, 100000), make([]bool, 100000)
	wantVictimAt := func(want int, found bool) {
		t.Helper()
		if b, ok := Victim(valid, may); b != want || ok != found {
			t.Errorf("P13.2: %d, %v; want %d, %v", b, ok, want, found)
		}
	}
	wantVictimAt(0, false)
	may[99999] = true
	wantVictimAt(99999, true)
	may[70000], valid[70000] = true, 1
	wantVictimAt(99999, true)
	valid[70000] = 0
	wantVictimAt(70000, true)
}

// How many pages a block has: within its limits, at them, past them.
func TestSplitSizes(t *testing.T) {
	l := runList(0, 100, 30, 100, 1, 3, 200, 312, top)
	for _, p := range append([]int{-1, 0, 1, 2, 3, 31, 32, 33, 34, 64, 1<<32 + 32}, ends...) {
		want := p >= 1 && p <= 32
		for _, l := range [][]api.Run{l, l[:2], l[:1], l[:0], nil} {
			if wantSplit(t, "sizes", l, p) != want {
				t.Fatalf("the plain form tells otherwise of %d pages", p)
			}
			for _, b := range append([]int{-1, 0, 1, 2, 3, 62, 63, 64, 65, 128, 1<<32 + 3}, ends...) {
				if wantMoves(t, "sizes", l, b, p) != (want && b >= 0 && b <= 63) {
					t.Fatalf("the plain form tells otherwise of block %d, %d pages", b, p)
				}
			}
		}
	}
}

// The page that a run begins at.
func TestSplitFarPages(t *testing.T) {
	for _, p := range []int{1, 2, 3, 7, 31, 32} {
		for _, n := range []int{1, 2, 31, 32, 33, 512} {
			for _, phys := range append([]int{0, 1, top - 1, top, top + 1, top + 2, top + 512, 1 << 21, 1 << 30}, ends...) {
				want := phys >= 0 && phys <= top
				if wantSplit(t, "far", runList(0, n, phys), p) != want || wantMoves(t, "far", runList(0, n, phys), 0, p) != want {
					t.Fatalf("the plain form tells otherwise of page %d", phys)
				}
				if n < 510 {
					wantSplit(t, "far, the second", runList(0, 1, 5, 2, n, phys), p)
					wantSplit(t, "far, the first", runList(0, n, phys, n+1, 1, 5), p)
					wantMoves(t, "far, the second", runList(0, 1, 5, 2, n, phys), 5/p, p)
				}
			}
		}
	}
	if parts, e := Split(runList(0, 3, top), 1); e != api.OK || !slices.Equal(parts, runList(0, 1, top, 1, 1, top+1, 2, 1, top+2)) {
		t.Errorf("P13.3: the parts behind 2^20: %v, %d", parts, e)
	}
}

// A run that goes beyond the last of MaxBlocks blocks: no block tells the rest.
func TestMovesBeyond(t *testing.T) {
	for p := 1; p <= 32; p++ {
		l := runList(0, 7, 64*p-1, 10, 2, 64*p, 20, 1, 64*p-1, 30, 500-30, 64*p+5)
		if wantValid(t, "beyond", l, 64, p) {
			t.Fatalf("the plain form takes %v", l)
		}
		wantSplit(t, "beyond", l, p)
		wantTogether(t, "beyond", l, p)
		if m, e := Moves(l, 63, p); e != api.OK || !slices.Equal(m, runList(0, 1, 64*p-1, 20, 1, 64*p-1)) {
			t.Errorf("P13.3: the last block of %d pages: %v, %d", p, m, e)
		}
		wantMoves(t, "beyond", l, 64, p)
	}
}
