package flat

import (
	"go/parser"
	"go/token"
	"math"
	"os"
	"slices"
	"strings"
	"testing"

	"ferrule/api"
	"ferrule/runs"
)

// The signatures are fixed by chapter 9.
var (
	_ func(int, int) (*Map, api.Errno)              = New
	_ func(*Map, int, int, int) api.Errno           = (*Map).Set
	_ func(*Map, int, int) api.Errno                = (*Map).Clear
	_ func(*Map, int) (int, bool)                   = (*Map).Get
	_ func(*Map, int, int) ([]api.Piece, api.Errno) = (*Map).Range
	_ func(*Map) []api.Run                          = (*Map).Runs
	_ func(*Map) int                                = (*Map).Count
	_ func(*Map) int                                = (*Map).Capacity
	_ func(*Map) int                                = (*Map).Most
	_ func(*Map) []int                              = (*Map).Table
)

// hole is where there is no page, in entries and in what a call hands in.
const hole = -1

// runList makes runs of numbers, three a run.
func runList(l ...int) []api.Run {
	var r []api.Run
	for i := 0; i < len(l); i += 3 {
		r = append(r, api.Run{Lba: l[i], Len: l[i+1], Phys: l[i+2]})
	}
	return r
}

// pieceList makes pieces of numbers, three a piece.
func pieceList(l ...int) []api.Piece {
	var p []api.Piece
	for _, r := range runList(l...) {
		p = append(p, api.Piece(r))
	}
	return p
}

func TestNew(t *testing.T) {
	right := []int{1, 2, 48, 511, 512}
	wrong := []int{0, -1, 513, -512, 1 << 20, 1 << 32, 1<<32 + 1, math.MaxInt, math.MinInt}
	for _, capacity := range right {
		for _, most := range right {
			c := twinOf(t, capacity, most)
			c.wantSame("New")
			if l, e := c.m.Range(0, capacity); !slices.Equal(l, pieceList(0, capacity, hole)) || e != api.OK {
				t.Errorf("P9.1: New(%d, %d) maps %v, %d", capacity, most, l, e)
			}
			if c.m.Count() != 0 || len(c.m.Runs()) != 0 || c.m.Capacity() != capacity || c.m.Most() != most {
				t.Errorf("P9.1: New(%d, %d): %v", capacity, most, c.m.Runs())
			}
			if l := c.m.Table(); !slices.Equal(l, slices.Repeat([]int{hole}, capacity)) {
				t.Errorf("P9.1: New(%d, %d): Table %v", capacity, most, l)
			}
		}
		for _, number := range wrong {
			wantNone(t, capacity, number)
			wantNone(t, number, capacity)
		}
	}
	for _, capacity := range wrong {
		for _, most := range wrong {
			wantNone(t, capacity, most)
		}
	}
}

// wantNone asks for a refusal of a map, of runs too.
func wantNone(t *testing.T, capacity, most int) {
	t.Helper()
	m, e := New(capacity, most)
	if m != nil || e != api.EARG {
		t.Errorf("P9.1: New(%d, %d): %v, %d", capacity, most, m, e)
	}
	if r, f := runs.New(capacity, most); r != nil || f != e {
		t.Errorf("P9.2: New(%d, %d): %d, of runs: %d", capacity, most, e, f)
	}
}

// change is one call, and the runs behind it, or the error.
type change struct {
	name         string
	lba, n, phys int
	want         []api.Run
	e            api.Errno
}

// wantChanges does each change on a map of its own that has the runs.
func wantChanges(t *testing.T, capacity, most int, first []api.Run, changes []change) {
	t.Helper()
	for _, k := range changes {
		c := twinOf(t, capacity, most)
		for _, r := range first {
			if e := c.set(r.Lba, r.Len, r.Phys); e != api.OK {
				t.Fatalf("P9.1: %s: Set of %v: %d", k.name, r, e)
			}
		}
		if e := c.call(k.lba, k.n, k.phys); e != k.e {
			t.Errorf("P9.1: %s: %d, want %d", k.name, e, k.e)
		}
		want := k.want
		if k.e != api.OK {
			want = first
		}
		if got := c.m.Runs(); !slices.Equal(got, want) {
			t.Errorf("P9.1: %s: %v, want %v", k.name, got, want)
		}
		c.wantRanges()
		c.wantSetBack(0, capacity)
	}
}

func TestOneRun(t *testing.T) {
	wantChanges(t, 12, 12, runList(4, 4, 100), []change{
		{name: "Set in the hole ahead", lba: 1, n: 2, phys: 7, want: runList(1, 2, 7, 4, 4, 100)},
		{name: "Set in the hole behind", lba: 9, n: 2, phys: 7, want: runList(4, 4, 100, 9, 2, 7)},
		{name: "Set of the first sector", lba: 0, n: 1, phys: 7, want: runList(0, 1, 7, 4, 4, 100)},
		{name: "Set of the last sector", lba: 11, n: 1, phys: 7, want: runList(4, 4, 100, 11, 1, 7)},
		{name: "Set up to the beginning", lba: 2, n: 2, phys: 7, want: runList(2, 2, 7, 4, 4, 100)},
		{name: "Set from the end on", lba: 8, n: 2, phys: 7, want: runList(4, 4, 100, 8, 2, 7)},
		{name: "Set across the beginning", lba: 3, n: 2, phys: 7, want: runList(3, 2, 7, 5, 3, 101)},
		{name: "Set across the end", lba: 7, n: 2, phys: 7, want: runList(4, 3, 100, 7, 2, 7)},
		{name: "Set from the beginning on", lba: 4, n: 2, phys: 7, want: runList(4, 2, 7, 6, 2, 102)},
		{name: "Set up to the end", lba: 6, n: 2, phys: 7, want: runList(4, 2, 100, 6, 2, 7)},
		{name: "Set within", lba: 5, n: 2, phys: 7, want: runList(4, 1, 100, 5, 2, 7, 7, 1, 103)},
		{name: "Set of just the run", lba: 4, n: 4, phys: 7, want: runList(4, 4, 7)},
		{name: "Set from ahead up to the end", lba: 2, n: 6, phys: 7, want: runList(2, 6, 7)},
		{name: "Set from the beginning up to behind", lba: 4, n: 6, phys: 7, want: runList(4, 6, 7)},
		{name: "Set over both ends", lba: 3, n: 6, phys: 7, want: runList(3, 6, 7)},
		{name: "Set of all", lba: 0, n: 12, phys: 7, want: runList(0, 12, 7)},
		{name: "Clear in the hole ahead", lba: 1, n: 2, phys: hole, want: runList(4, 4, 100)},
		{name: "Clear of the hole ahead", lba: 0, n: 4, phys: hole, want: runList(4, 4, 100)},
		{name: "Clear of the hole behind", lba: 8, n: 4, phys: hole, want: runList(4, 4, 100)},
		{name: "Clear of the last sector", lba: 11, n: 1, phys: hole, want: runList(4, 4, 100)},
		{name: "Clear across the beginning", lba: 3, n: 2, phys: hole, want: runList(5, 3, 101)},
		{name: "Clear across the end", lba: 7, n: 2, phys: hole, want: runList(4, 3, 100)},
		{name: "Clear from the beginning on", lba: 4, n: 2, phys: hole, want: runList(6, 2, 102)},
		{name: "Clear up to the end", lba: 6, n: 2, phys: hole, want: runList(4, 2, 100)},
		{name: "Clear within", lba: 5, n: 2, phys: hole, want: runList(4, 1, 100, 7, 1, 103)},
		{name: "Clear of just the run", lba: 4, n: 4, phys: hole},
		{name: "Clear over both ends", lba: 3, n: 6, phys: hole},
		{name: "Clear of all", lba: 0, n: 12, phys: hole},
	})
}

func TestSameAgain(t *testing.T) {
	wantChanges(t, 12, 1, runList(4, 4, 100), []change{
		{name: "the run again", lba: 4, n: 4, phys: 100, want: runList(4, 4, 100)},
		{name: "its first sectors again", lba: 4, n: 2, phys: 100, want: runList(4, 4, 100)},
		{name: "its last sectors again", lba: 6, n: 2, phys: 102, want: runList(4, 4, 100)},
		{name: "those within again", lba: 5, n: 2, phys: 101, want: runList(4, 4, 100)},
		{name: "the run again, and sectors ahead", lba: 2, n: 6, phys: 98, want: runList(2, 6, 98)},
		{name: "the run again, and sectors behind", lba: 4, n: 8, phys: 100, want: runList(4, 8, 100)},
		{name: "part of it again, and sectors ahead", lba: 3, n: 2, phys: 99, want: runList(3, 5, 99)},
		{name: "part of it again, and sectors behind", lba: 7, n: 2, phys: 103, want: runList(4, 5, 100)},
	})
}

func TestMerge(t *testing.T) {
	wantChanges(t, 12, 12, runList(1, 3, 10, 6, 4, 15), []change{
		{name: "with the left", lba: 4, n: 1, phys: 13, want: runList(1, 4, 10, 6, 4, 15)},
		{name: "with the right", lba: 5, n: 1, phys: 14, want: runList(1, 3, 10, 5, 5, 14)},
		{name: "with both", lba: 4, n: 2, phys: 13, want: runList(1, 9, 10)},
		{name: "with the right, ahead of the first page", lba: 0, n: 1, phys: 9, want: runList(0, 4, 9, 6, 4, 15)},
		{name: "with the left, up to the last sector", lba: 10, n: 2, phys: 19, want: runList(1, 3, 10, 6, 6, 15)},
		{name: "with the left, not with the right: behind it", lba: 4, n: 2, phys: 14, want: runList(1, 3, 10, 4, 2, 14, 6, 4, 15)},
		{name: "with none: one page less", lba: 4, n: 2, phys: 12, want: runList(1, 3, 10, 4, 2, 12, 6, 4, 15)},
		{name: "with none: the left's own page", lba: 4, n: 1, phys: 12, want: runList(1, 3, 10, 4, 1, 12, 6, 4, 15)},
		{name: "with none: the right's own page", lba: 5, n: 1, phys: 15, want: runList(1, 3, 10, 5, 1, 15, 6, 4, 15)},
		{name: "with none: pages that go on the other way round", lba: 0, n: 1, phys: 13, want: runList(0, 1, 13, 1, 3, 10, 6, 4, 15)},
		{name: "with none: a hole between", lba: 11, n: 1, phys: 20, want: runList(1, 3, 10, 6, 4, 15, 11, 1, 20)},
		{name: "with none: pages that go on over a hole", lba: 5, n: 1, phys: 13, want: runList(1, 3, 10, 5, 1, 13, 6, 4, 15)},
		{name: "with what is left of the left", lba: 3, n: 2, phys: 12, want: runList(1, 4, 10, 6, 4, 15)},
		{name: "with what is left of the right", lba: 5, n: 3, phys: 14, want: runList(1, 3, 10, 5, 5, 14)},
		{name: "with what is left of both", lba: 3, n: 5, phys: 12, want: runList(1, 9, 10)},
		{name: "all in one", lba: 1, n: 9, phys: 10, want: runList(1, 9, 10)},
	})
	wantChanges(t, 9, 9, runList(0, 3, 10, 3, 3, 20, 6, 3, 16), []change{
		{name: "over the middle, with both", lba: 3, n: 3, phys: 13, want: runList(0, 9, 10)},
		{name: "over the middle, with the left", lba: 3, n: 2, phys: 13, want: runList(0, 5, 10, 5, 1, 22, 6, 3, 16)},
		{name: "over the middle, with the right", lba: 4, n: 2, phys: 14, want: runList(0, 3, 10, 3, 1, 20, 4, 5, 14)},
		{name: "the left goes on in the middle", lba: 0, n: 3, phys: 17, want: runList(0, 6, 17, 6, 3, 16)},
		{name: "the right goes on from the middle", lba: 6, n: 3, phys: 23, want: runList(0, 3, 10, 3, 6, 20)},
		{name: "a Clear merges nothing", lba: 3, n: 3, phys: hole, want: runList(0, 3, 10, 6, 3, 16)},
	})
}

func TestManyRuns(t *testing.T) {
	first := runList(0, 2, 50, 2, 2, 60, 5, 1, 70, 7, 3, 80, 10, 2, 90)
	wantChanges(t, 12, 12, first, []change{
		{name: "Set of all", lba: 0, n: 12, phys: 7, want: runList(0, 12, 7)},
		{name: "Set from within the first to within the last", lba: 1, n: 10, phys: 7, want: runList(0, 1, 50, 1, 10, 7, 11, 1, 91)},
		{name: "Set over three and their holes", lba: 2, n: 8, phys: 7, want: runList(0, 2, 50, 2, 8, 7, 10, 2, 90)},
		{name: "Set across two neighbours", lba: 1, n: 2, phys: 7, want: runList(0, 1, 50, 1, 2, 7, 3, 1, 61, 5, 1, 70, 7, 3, 80, 10, 2, 90)},
		{name: "Set from hole to hole", lba: 4, n: 3, phys: 7, want: runList(0, 2, 50, 2, 2, 60, 4, 3, 7, 7, 3, 80, 10, 2, 90)},
		{name: "Set that goes on with the first, up to the last", lba: 2, n: 8, phys: 52, want: runList(0, 10, 50, 10, 2, 90)},
		{name: "Set that the last goes on with", lba: 2, n: 8, phys: 82, want: runList(0, 2, 50, 2, 10, 82)},
		{name: "Clear of all", lba: 0, n: 12, phys: hole},
		{name: "Clear from within the first to within the last", lba: 1, n: 10, phys: hole, want: runList(0, 1, 50, 11, 1, 91)},
		{name: "Clear over three and their holes", lba: 2, n: 8, phys: hole, want: runList(0, 2, 50, 10, 2, 90)},
		{name: "Clear across two neighbours", lba: 1, n: 2, phys: hole, want: runList(0, 1, 50, 3, 1, 61, 5, 1, 70, 7, 3, 80, 10, 2, 90)},
		{name: "Clear of the first sector", lba: 0, n: 1, phys: hole, want: runList(1, 1, 51, 2, 2, 60, 5, 1, 70, 7, 3, 80, 10, 2, 90)},
		{name: "Clear of the last sector", lba: 11, n: 1, phys: hole, want: runList(0, 2, 50, 2, 2, 60, 5, 1, 70, 7, 3, 80, 10, 1, 90)},
		{name: "Clear from hole to hole", lba: 4, n: 3, phys: hole, want: runList(0, 2, 50, 2, 2, 60, 7, 3, 80, 10, 2, 90)},
	})
}

func TestFull(t *testing.T) {
	first := runList(0, 3, 10, 3, 3, 20, 8, 3, 30)
	wantChanges(t, 12, 3, first, []change{
		{name: "one too many: in a hole", lba: 7, n: 1, phys: 5, e: api.EFULL},
		{name: "one too many: behind all", lba: 11, n: 1, phys: 5, e: api.EFULL},
		{name: "one too many: at the beginning of one", lba: 0, n: 1, phys: 5, e: api.EFULL},
		{name: "one too many: at the end of one", lba: 10, n: 1, phys: 5, e: api.EFULL},
		{name: "one too many: across two", lba: 2, n: 2, phys: 5, e: api.EFULL},
		{name: "two too many: within one", lba: 1, n: 1, phys: 5, e: api.EFULL},
		{name: "two too many: within the last", lba: 9, n: 1, phys: 5, e: api.EFULL},
		{name: "one too many: a Clear within one", lba: 1, n: 1, phys: hole, e: api.EFULL},
		{name: "one too many: a Clear within the last", lba: 9, n: 1, phys: hole, e: api.EFULL},
		{name: "just as many: a Clear at an end", lba: 2, n: 2, phys: hole, want: runList(0, 2, 10, 4, 2, 21, 8, 3, 30)},
		{name: "just as many: merged with the left", lba: 6, n: 1, phys: 23, want: runList(0, 3, 10, 3, 4, 20, 8, 3, 30)},
		{name: "just as many: merged with the right", lba: 7, n: 1, phys: 29, want: runList(0, 3, 10, 3, 3, 20, 7, 4, 29)},
		{name: "just as many: merged with what is left", lba: 3, n: 1, phys: 13, want: runList(0, 4, 10, 4, 2, 21, 8, 3, 30)},
		{name: "just as many: in the place of one", lba: 3, n: 3, phys: 5, want: runList(0, 3, 10, 3, 3, 5, 8, 3, 30)},
		{name: "just as many: one goes, one is cut", lba: 2, n: 4, phys: 5, want: runList(0, 2, 10, 2, 4, 5, 8, 3, 30)},
		{name: "just as many: one goes, both ends stay", lba: 2, n: 7, phys: 5, want: runList(0, 2, 10, 2, 7, 5, 9, 2, 31)},
		{name: "just as many: two cut, merged with the first", lba: 2, n: 2, phys: 12, want: runList(0, 4, 10, 4, 2, 21, 8, 3, 30)},
		{name: "just as many: nothing new", lba: 4, n: 1, phys: 21, want: first},
		{name: "just as many: a Clear of a hole", lba: 6, n: 2, phys: hole, want: first},
		{name: "fewer", lba: 1, n: 8, phys: 5, want: runList(0, 1, 10, 1, 8, 5, 9, 2, 31)},
		{name: "one", lba: 0, n: 12, phys: 5, want: runList(0, 12, 5)},
		{name: "none", lba: 0, n: 12, phys: hole},
		{name: "EARG is first", lba: 7, n: 1, phys: -1 - 1, e: api.EARG},
		{name: "EARG is first, beyond the capacity", lba: 11, n: 2, phys: 5, e: api.EARG},
	})
	wantChanges(t, 12, 2, runList(0, 12, 10), []change{
		{name: "one of two too many", lba: 5, n: 1, phys: 5, e: api.EFULL},
		{name: "a Clear: just as many", lba: 5, n: 1, phys: hole, want: runList(0, 5, 10, 6, 6, 16)},
		{name: "at the first: just as many", lba: 0, n: 1, phys: 5, want: runList(0, 1, 5, 1, 11, 11)},
		{name: "at the last: just as many", lba: 11, n: 1, phys: 5, want: runList(0, 11, 10, 11, 1, 5)},
	})
	wantChanges(t, 12, 3, runList(0, 12, 10), []change{
		{name: "two more: just as many", lba: 5, n: 1, phys: 5, want: runList(0, 5, 10, 5, 1, 5, 6, 6, 16)},
	})
	wantChanges(t, 12, 1, runList(0, 12, 10), []change{
		{name: "two too many at most 1", lba: 5, n: 1, phys: 5, e: api.EFULL},
		{name: "a Clear within at most 1", lba: 5, n: 1, phys: hole, e: api.EFULL},
		{name: "a Clear at the end at most 1", lba: 6, n: 6, phys: hole, want: runList(0, 6, 10)},
	})
}

// A map as full as may be, of MaxCapacity sectors and MaxRuns runs: each sector by itself.
func TestGreatest(t *testing.T) {
	entries := make([]int, api.MaxCapacity)
	for i := range entries {
		entries[i] = 2 * (len(entries) - i)
	}
	c := holding(t, entries, 0)
	c.wantSame("each sector set")
	if c.m.Count() != api.MaxRuns || c.m.Most() != api.MaxRuns {
		t.Fatalf("P9.1: Count %d, Most %d", c.m.Count(), c.m.Most())
	}
	for lba := 0; lba < len(entries); lba += 7 {
		c.wantRange(lba, len(entries)-lba)
		c.wantRange(0, lba+1)
		c.set(lba, 1, 1<<20)
		c.set(lba, 1, entries[lba])
	}
	c.wantSetBack(0, len(entries))
	c.set(0, 512, 0)
	c.clear(0, 512)
	narrow := twinOf(t, api.MaxCapacity, 256)
	for lba := 0; lba < 512; lba += 2 {
		narrow.set(lba, 1, lba)
	}
	if e := narrow.set(511, 1, 5); e != api.EFULL {
		t.Errorf("P9.1: the run 257 of 256: %d", e)
	}
	if e := narrow.set(1, 1, 1); e != api.OK || narrow.m.Count() != 255 {
		t.Errorf("P9.1: a hole filled: %d, %d runs", e, narrow.m.Count())
	}
	narrow.wantSetBack(0, 512)
}

// wrongRanges are ranges that are not right in a map of 10 sectors.
func wrongRanges() [][2]int {
	return [][2]int{
		{-1, 1}, {-1, 2}, {-5, 10}, {-1, 11}, {0, 0}, {5, 0}, {10, 0}, {0, -1}, {5, -1}, {5, -5}, {10, -1}, {11, -2},
		{0, 11}, {1, 10}, {9, 2}, {10, 1}, {11, 1}, {512, 1}, {0, 512}, {0, 513},
		{math.MaxInt, 1}, {math.MaxInt, 0}, {math.MaxInt, math.MaxInt}, {math.MaxInt, math.MinInt}, {math.MaxInt, -math.MaxInt},
		{math.MinInt, 1}, {math.MinInt, 0}, {math.MinInt, math.MinInt}, {math.MinInt, math.MaxInt}, {-math.MaxInt, math.MaxInt},
		{0, math.MaxInt}, {1, math.MaxInt}, {9, math.MaxInt}, {0, math.MinInt}, {1, math.MinInt}, {-1, math.MinInt}, {-1, math.MaxInt},
		{math.MaxInt - 1, 2}, {math.MaxInt - 1, 3}, {1 << 32, 1}, {0, 1 << 32}, {0, 1<<32 + 1}, {-1 << 32, 1},
	}
}

func TestWrongRanges(t *testing.T) {
	c := twinOf(t, 10, 3)
	c.set(0, 2, 5)
	c.set(4, 6, 50)
	for _, k := range wrongRanges() {
		for _, phys := range []int{0, 5, 1 << 20, -1, 1<<20 + 1} {
			if e := c.set(k[0], k[1], phys); e != api.EARG {
				t.Errorf("P9.1: Set(%d, %d, %d): %d", k[0], k[1], phys, e)
			}
		}
		if e := c.clear(k[0], k[1]); e != api.EARG {
			t.Errorf("P9.1: Clear(%d, %d): %d", k[0], k[1], e)
		}
		if l, e := c.m.Range(k[0], k[1]); len(l) != 0 || e != api.EARG {
			t.Errorf("P9.1: Range(%d, %d): %v, %d", k[0], k[1], l, e)
		}
	}
	for _, phys := range []int{-1, -2, 1<<20 + 1, 1 << 21, 1 << 32, math.MaxInt, math.MinInt} {
		if e := c.set(3, 1, phys); e != api.EARG {
			t.Errorf("P9.1: Set(3, 1, %d): %d", phys, e)
		}
	}
	c.wantRanges()
}

func TestPages(t *testing.T) {
	const last = 1 << 20
	wantChanges(t, 6, 6, runList(2, 2, last), []change{
		{name: "the first page of all", lba: 0, n: 1, phys: 0, want: runList(0, 1, 0, 2, 2, last)},
		{name: "the last page, and some behind it", lba: 0, n: 6, phys: last, want: runList(0, 6, last)},
		{name: "the last page but one, behind it too", lba: 0, n: 6, phys: last - 1, want: runList(0, 6, last-1)},
		{name: "merged up to behind the last page", lba: 0, n: 2, phys: last - 2, want: runList(0, 4, last-2)},
		{name: "the last page again", lba: 4, n: 1, phys: last, want: runList(2, 2, last, 4, 1, last)},
		{name: "behind the last page", lba: 4, n: 1, phys: last + 1, e: api.EARG},
		{name: "what it has already, behind the last page", lba: 3, n: 1, phys: last + 1, e: api.EARG},
		{name: "what it has already", lba: 2, n: 2, phys: last, want: runList(2, 2, last)},
		{name: "cut behind the last page", lba: 2, n: 1, phys: hole, want: runList(3, 1, last+1)},
	})
	c := twinOf(t, 512, 1)
	if e := c.set(0, 512, last); e != api.OK {
		t.Fatalf("P9.1: Set(0, 512, 2^20): %d", e)
	}
	if phys, ok := c.m.Get(511); phys != last+511 || !ok {
		t.Errorf("P9.1: Get(511): %d, %v", phys, ok)
	}
}

func TestGet(t *testing.T) {
	c := twinOf(t, 10, 4)
	ends := []int{math.MinInt, math.MinInt + 1, -1 << 32, -512, -10, -1, 10, 11, 512, 1 << 20, 1 << 32, 1<<32 + 4, math.MaxInt - 1, math.MaxInt}
	for _, r := range [][3]int{{4, 3, 100}, {7, 2, 0}, {0, 1, 9}, {9, 1, 77}} {
		c.set(r[0], r[1], r[2])
		for _, lba := range ends {
			if phys, ok := c.m.Get(lba); phys != 0 || ok {
				t.Errorf("P9.1: Get(%d): %d, %v", lba, phys, ok)
			}
		}
	}
	for lba, want := range []int{9, hole, hole, hole, 100, 101, 102, 0, 1, 77} {
		phys, ok := c.m.Get(lba)
		if ok != (want >= 0) || phys != max(want, 0) {
			t.Errorf("P9.1: Get(%d): %d, %v; want %d", lba, phys, ok, want)
		}
	}
}

func TestRange(t *testing.T) {
	c := twinOf(t, 20, 5)
	for _, r := range [][3]int{{2, 4, 100}, {6, 3, 50}, {12, 2, 7}, {18, 2, 0}} {
		c.set(r[0], r[1], r[2])
	}
	for _, k := range []struct {
		lba, n int
		want   []api.Piece
	}{
		{0, 20, pieceList(0, 2, hole, 2, 4, 100, 6, 3, 50, 9, 3, hole, 12, 2, 7, 14, 4, hole, 18, 2, 0)},
		{0, 1, pieceList(0, 1, hole)},
		{1, 1, pieceList(1, 1, hole)},
		{0, 2, pieceList(0, 2, hole)},
		{0, 3, pieceList(0, 2, hole, 2, 1, 100)},
		{2, 4, pieceList(2, 4, 100)},
		{3, 2, pieceList(3, 2, 101)},
		{5, 1, pieceList(5, 1, 103)},
		{5, 2, pieceList(5, 1, 103, 6, 1, 50)},
		{4, 10, pieceList(4, 2, 102, 6, 3, 50, 9, 3, hole, 12, 2, 7)},
		{7, 6, pieceList(7, 2, 51, 9, 3, hole, 12, 1, 7)},
		{10, 6, pieceList(10, 2, hole, 12, 2, 7, 14, 2, hole)},
		{10, 1, pieceList(10, 1, hole)},
		{13, 6, pieceList(13, 1, 8, 14, 4, hole, 18, 1, 0)},
		{19, 1, pieceList(19, 1, 1)},
	} {
		if l, e := c.m.Range(k.lba, k.n); !slices.Equal(l, k.want) || e != api.OK {
			t.Errorf("P9.1: Range(%d, %d): %v, %d; want %v", k.lba, k.n, l, e, k.want)
		}
	}
	c.wantRanges()
	c.wantSame("asking")
	for lba := range 20 {
		for n := 1; lba+n <= 20; n++ {
			c.wantSetBack(lba, n)
		}
	}
}

// spoil sets all of a list, spare room too, to something else.
func spoil[T any](l []T, wrong T) {
	l = l[:cap(l)]
	for i := range l {
		l[i] = wrong
	}
}

// answers are what Range, Runs and Table told at one time.
type answers struct {
	pieces []api.Piece
	runs   []api.Run
	table  []int
}

// ask tells the map's answers of now.
func ask(m *Map, lba, n int) answers {
	l, _ := m.Range(lba, n)
	return answers{l, m.Runs(), m.Table()}
}

func (a answers) clone() answers {
	return answers{slices.Clone(a.pieces), slices.Clone(a.runs), slices.Clone(a.table)}
}

func (a answers) equal(b answers) bool {
	return slices.Equal(a.pieces, b.pieces) && slices.Equal(a.runs, b.runs) && slices.Equal(a.table, b.table)
}

func (a answers) spoil() {
	spoil(a.pieces, api.Piece{Lba: 77, Len: 77, Phys: 77})
	spoil(a.runs, api.Run{Lba: 77, Len: 77, Phys: 77})
	spoil(a.table, 77)
}

// What Range, Runs and Table answer is the caller's own.
func TestAnswersAreApart(t *testing.T) {
	c := twinOf(t, 20, 10)
	for lba := 0; lba < 18; lba += 3 {
		c.set(lba, 2, 100-lba)
	}
	kept := ask(c.m, 1, 17)
	same := kept.clone()
	ask(c.m, 1, 17).spoil()
	if !kept.equal(same) {
		t.Fatalf("R4: two answers share memory: %v, was %v", kept, same)
	}
	c.wantSame("answers spoilt")
	c.set(4, 9, 500)
	c.clear(6, 2)
	c.set(0, 20, 3)
	c.set(7, 1, 1<<20+1)
	if !kept.equal(same) {
		t.Fatalf("R4: a later call changed what was answered: %v, was %v", kept, same)
	}
	kept.spoil()
	now := ask(c.m, 0, 20)
	_ = append(now.pieces, api.Piece{Lba: 77})
	_ = append(now.runs, api.Run{Lba: 77})
	_ = append(now.table, 77)
	c.wantSame("answers spoilt")
	c.wantRanges()
}

// An answer of a map that maps nothing, or that refused a call, is the caller's own, too.
func TestAnswersAreApartOfNothing(t *testing.T) {
	c := twinOf(t, 4, 1)
	for range 3 {
		ask(c.m, 0, 4).spoil()
		_ = append(c.m.Runs(), api.Run{Lba: 77})
		c.wantSame("answers spoilt")
		c.set(1, 1, 5)
		kept := ask(c.m, 0, 4)
		same := kept.clone()
		if e := c.set(3, 1, 5); e != api.EFULL {
			t.Fatalf("P9.1: Set: %d", e)
		}
		kept.spoil()
		if !ask(c.m, 0, 4).equal(same) {
			t.Fatalf("R3: behind EFULL %v, was %v", ask(c.m, 0, 4), same)
		}
		c.clear(0, 4)
	}
}

// Two maps know nothing of each other.
func TestTwoMaps(t *testing.T) {
	one, two := twinOf(t, 9, 3), twinOf(t, 9, 3)
	one.set(0, 3, 10)
	two.wantSame("a Set of the other")
	two.set(1, 1, 90)
	two.set(5, 4, 30)
	one.wantSame("a Set of the other")
	one.clear(1, 1)
	two.wantSame("a Clear of the other")
	one.wantRanges()
	two.wantRanges()
}

func TestTable(t *testing.T) {
	c := twinOf(t, 7, 4)
	for _, k := range []struct {
		lba, n, phys int
		e            api.Errno
		want         []int
	}{
		{1, 2, 0, api.OK, []int{hole, 0, 1, hole, hole, hole, hole}},
		{0, 1, 9, api.OK, []int{9, 0, 1, hole, hole, hole, hole}},
		{5, 2, 1 << 20, api.OK, []int{9, 0, 1, hole, hole, 1 << 20, 1<<20 + 1}},
		{2, 1, hole, api.OK, []int{9, 0, hole, hole, hole, 1 << 20, 1<<20 + 1}},
		{3, 1, 7, api.OK, []int{9, 0, hole, 7, hole, 1 << 20, 1<<20 + 1}},
		{6, 1, 7, api.EFULL, []int{9, 0, hole, 7, hole, 1 << 20, 1<<20 + 1}},
		{6, 2, 7, api.EARG, []int{9, 0, hole, 7, hole, 1 << 20, 1<<20 + 1}},
		{4, 1, 8, api.OK, []int{9, 0, hole, 7, 8, 1 << 20, 1<<20 + 1}},
		{0, 7, hole, api.OK, []int{hole, hole, hole, hole, hole, hole, hole}},
	} {
		if e := c.call(k.lba, k.n, k.phys); e != k.e || !slices.Equal(c.m.Table(), k.want) {
			t.Errorf("P9.1: behind (%d %d %d), %d: Table %v, want %v", k.lba, k.n, k.phys, e, c.m.Table(), k.want)
		}
	}
}

// A hole's number and the page 0 are no neighbours, though the numbers are.
func TestPageNought(t *testing.T) {
	wantChanges(t, 6, 6, runList(2, 2, 0), []change{
		{name: "nothing ahead of it", lba: 0, n: 1, phys: hole, want: runList(2, 2, 0)},
		{name: "its first sector goes", lba: 2, n: 1, phys: hole, want: runList(3, 1, 1)},
		{name: "its last sector goes", lba: 3, n: 1, phys: hole, want: runList(2, 1, 0)},
		{name: "the page 0 behind a hole", lba: 5, n: 1, phys: 0, want: runList(2, 2, 0, 5, 1, 0)},
		{name: "the page 0 behind the page 1", lba: 4, n: 1, phys: 0, want: runList(2, 2, 0, 4, 1, 0)},
		{name: "the page 0 of the first sector", lba: 0, n: 1, phys: 0, want: runList(0, 1, 0, 2, 2, 0)},
	})
}

func TestExamples(t *testing.T) {
	c := twinOf(t, 10, 3)
	want := func(name string, got, e api.Errno, runs []api.Run) {
		t.Helper()
		if got != e || !slices.Equal(c.m.Runs(), runs) {
			t.Errorf("P9.1: %s: %d, %v; want %d, %v", name, got, c.m.Runs(), e, runs)
		}
	}
	want("Set(0, 4, 100)", c.set(0, 4, 100), api.OK, runList(0, 4, 100))
	want("Set(4, 2, 104)", c.set(4, 2, 104), api.OK, runList(0, 6, 100))
	if l := c.m.Table(); !slices.Equal(l, []int{100, 101, 102, 103, 104, 105, -1, -1, -1, -1}) {
		t.Errorf("P9.1: Table: %v", l)
	}
	three := runList(0, 2, 100, 2, 1, 50, 3, 3, 103)
	want("Set(2, 1, 50)", c.set(2, 1, 50), api.OK, three)
	if l, e := c.m.Range(0, 8); !slices.Equal(l, pieceList(0, 2, 100, 2, 1, 50, 3, 3, 103, 6, 2, -1)) || e != api.OK {
		t.Errorf("P9.1: Range(0, 8): %v, %d", l, e)
	}
	want("Set(8, 1, 7)", c.set(8, 1, 7), api.EFULL, three)
	want("Clear(4, 1)", c.clear(4, 1), api.EFULL, three)
	want("Set(2, 1, 102)", c.set(2, 1, 102), api.OK, runList(0, 6, 100))
	two := runList(0, 4, 100, 5, 1, 105)
	want("Clear(4, 1)", c.clear(4, 1), api.OK, two)
	if got := c.m.Count(); got != 2 {
		t.Errorf("P9.1: Count: %d", got)
	}
	want("Set(9, 2, 0)", c.set(9, 2, 0), api.EARG, two)
	want("Set(-1, 1, 0)", c.set(-1, 1, 0), api.EARG, two)
	want("Clear(0, 0)", c.clear(0, 0), api.EARG, two)
	for _, lba := range []int{9, -5} {
		if phys, ok := c.m.Get(lba); phys != 0 || ok {
			t.Errorf("P9.1: Get(%d): %d, %v", lba, phys, ok)
		}
	}
}

// Chapter 9: the package calls no other layer.
func TestCallsNoOtherLayer(t *testing.T) {
	entries, err := os.ReadDir(".")
	if err != nil {
		t.Fatal(err)
	}
	files := 0
	for _, entry := range entries {
		name := entry.Name()
		if !strings.HasSuffix(name, ".go") || strings.HasSuffix(name, "_test.go") {
			continue
		}
		f, err := parser.ParseFile(token.NewFileSet(), name, nil, parser.ImportsOnly)
		if err != nil {
			t.Fatal(err)
		}
		files++
		for _, spec := range f.Imports {
			if path := strings.Trim(spec.Path.Value, `"`); strings.HasPrefix(path, "ferrule/") && path != "ferrule/api" {
				t.Errorf("%s imports %s", name, path)
			}
		}
	}
	if files == 0 {
		t.Error("no file of the package was looked at")
	}
}
