package stream

import (
	"math"
	"slices"
	"testing"

	"ferrule/api"
)

var _ func(int) (*Detector, api.Errno) = New
var _ func(*Detector, int, int) (int, api.Errno) = (*Detector).Feed
var _ func(*Detector) []int = (*Detector).Expects
var _ func(*Detector, int) (int, api.Errno) = (*Detector).Long

// The examples of chapter 14: the second row goes on behind the first.
func TestExamples(t *testing.T) {
	b := newBoth(t, 2)
	b.wants(0, 4, 0)
	b.wants(100, 1, 1)
	b.wants(4, 2, 0)
	b.wants(101, 1, 1)
	b.wantsExpects(6, 102)
	b.wantsLong(2)
	b.wants(50, 1, 0)
	b.wantsExpects(51, 102)
	b.wantsLong(1)
	if s, e := b.d.Feed(-1, 1); s != 0 || e != api.EARG {
		t.Errorf("P14.1: Feed(-1, 1): %d, %d", s, e)
	}
}

// How many streams: within the limits, at them, past them; and what a new one tells.
func TestNew(t *testing.T) {
	for _, n := range append([]int{-1, 0, 17, 18, 32, 1<<32 + 16}, ends...) {
		if d, e := New(n); d != nil || e != api.EARG {
			t.Errorf("P14.1: New(%d): %v, %d", n, d, e)
		}
	}
	for n := 1; n <= 16; n++ {
		b := newBoth(t, n)
		b.wantsExpects(slices.Repeat([]int{-1}, n)...)
		b.wantsLong(make([]int, n)...)
	}
}

// Which streams there are.
func TestLongOfWhich(t *testing.T) {
	for n := 1; n <= 16; n++ {
		b := newBoth(t, n)
		for range 2 {
			for _, s := range append([]int{-17, -16, -1, n, n + 1, 16, 17, 1<<32 + n - 1}, ends...) {
				if long, e := b.d.Long(s); long != 0 || e != api.EARG {
					t.Errorf("P14.2: %d streams: Long(%d): %d, %d", n, s, long, e)
				}
			}
			for i := range n {
				b.feed(10*i, 1)
				b.feed(10*i+1, 1)
			}
			b.wantsLong(slices.Repeat([]int{2}, n)...)
		}
	}
}

// edges are where a command's two numbers are taken or refused.
var edges = append([]int{-1, 0, 1, 2, 3, 7, top/2 - 1, top / 2, top/2 + 1, top - 2, top - 1, top, top + 1, top + 2}, ends...)

// Each two of the edges, on a detector that was used, and on a new one.
func TestFeedEdges(t *testing.T) {
	taken, refused := 0, 0
	for _, streams := range []int{1, 2, 3, 16} {
		for _, lba := range edges {
			for _, n := range edges {
				newBoth(t, streams).feed(lba, n)
				b := newBoth(t, streams)
				b.feed(5, 2)
				b.feed(top-2, 1)
				if _, e := b.feed(lba, n); e == api.OK {
					taken++
				} else {
					refused++
				}
				b.feed(7, 1)
				b.feed(top-1, 1)
				b.feed(5, 2)
			}
		}
	}
	if taken < 4*30 || refused < 4*500 {
		t.Errorf("%d were taken, %d refused", taken, refused)
	}
}

// The same edges, written out.
func TestFeedKnownEdges(t *testing.T) {
	for _, k := range []struct{ lba, n, end int }{
		{0, 1, 1}, {0, top - 1, top - 1}, {0, top, top}, {1, top - 1, top}, {top - 1, 1, top}, {top - 2, 1, top - 1}, {top / 2, top / 2, top},
	} {
		b := newBoth(t, 2)
		b.wants(k.lba, k.n, 0)
		b.wantsExpects(k.end, -1)
		b.wantsLong(1, 0)
	}
	for _, k := range [][2]int{
		{-1, 1}, {-1, 2}, {-1, top}, {-1, top + 1}, {0, 0}, {0, -1}, {1, 0}, {5, -5}, {top, 0}, {top, -1}, {top, 1}, {top - 1, 2}, {1, top}, {0, top + 1},
		{top + 1, 1}, {top + 1, -1}, {2 * top, -top}, {-top, 2 * top}, {math.MinInt, 1}, {math.MaxInt, 1}, {0, math.MinInt}, {0, math.MaxInt}, {1, math.MaxInt},
		{math.MaxInt, math.MaxInt}, {math.MinInt, math.MinInt}, {math.MinInt, math.MaxInt}, {math.MaxInt, math.MinInt}, {1 << 62, 1 << 62}, {top, math.MaxInt},
	} {
		b := newBoth(t, 2)
		if s, e := b.d.Feed(k[0], k[1]); s != 0 || e != api.EARG {
			t.Errorf("P14.1: Feed(%d, %d): %d, %d", k[0], k[1], s, e)
		}
		b.look()
	}
}

// A stream of which the last command ended at the limit: no command goes on there.
func TestFeedBehindTheLimit(t *testing.T) {
	b := newBoth(t, 2)
	b.wants(0, top-1, 0)
	b.wants(top-1, 1, 0)
	b.wantsLong(2, 0)
	for _, n := range []int{1, 0, -1, top} {
		if s, e := b.feed(top, n); s != 0 || e != api.EARG {
			t.Errorf("P14.1: Feed(%d, %d): %d, %d", top, n, s, e)
		}
	}
	b.wantsExpects(top, -1)
	b.wantsLong(2, 0)
	b.wants(3, 1, 1)
}

// A command that is refused uses no stream: each of them, behind each command of a row
// whose answers hang on which stream was used last.
func TestRefusedChangesNothing(t *testing.T) {
	row := []command{{0, 4, 0}, {3, 1, 1}, {4, 1, 1}, {4, 1, 0}, {9, 1, 1}, {9, 1, 0}, {5, 5, 1}, {10, 1, 1}, {10, 1, 0}, {11, 1, 0}}
	refused := [][2]int{{-1, 1}, {-1, 5}, {0, 0}, {4, 0}, {5, -1}, {4, top}, {10, top - 9}, {10, math.MaxInt}, {math.MaxInt, 1}, {math.MinInt, math.MinInt}}
	for _, wrong := range refused {
		b := newBoth(t, 2)
		for _, c := range row {
			b.wants(c.lba, c.n, c.stream)
			if s, e := b.feed(wrong[0], wrong[1]); s != 0 || e != api.EARG {
				t.Fatalf("the plain form: Feed(%d, %d): %d, %d", wrong[0], wrong[1], s, e)
			}
		}
	}
}

// A new one, whose streams were not used: a refused command uses none of them.
func TestRefusedAtFirst(t *testing.T) {
	b := newBoth(t, 3)
	b.feed(-1, 1)
	b.feed(0, 0)
	b.wants(7, 1, 0)
	b.feed(-1, 1)
	b.wants(7, 1, 1)
	b.feed(8, top)
	b.wants(7, 1, 2)
	b.feed(8, 0)
	b.wants(7, 1, 0)
}

// What is asked changes nothing, a stream that is not there included.
func TestAskedChangesNothing(t *testing.T) {
	b := newBoth(t, 2)
	for _, c := range []command{{0, 4, 0}, {3, 1, 1}, {4, 1, 1}, {4, 1, 0}, {9, 1, 1}} {
		b.wants(c.lba, c.n, c.stream)
		for _, s := range []int{0, 1, -1, 2, math.MaxInt} {
			b.d.Long(s)
			b.d.Expects()
		}
		b.look()
	}
}

// No stream expects lba: those that were not used come first, the least number
// first; then the one that was used longest ago.
func TestNoneExpects(t *testing.T) {
	for n := 1; n <= 16; n++ {
		b := newBoth(t, n)
		for i := range 3 * n {
			b.wants(100*i, 1, i%n)
		}
		b.wantsLong(slices.Repeat([]int{1}, n)...)
	}
}

// A stream that goes on counts as used: the next one that is taken is another.
func TestGoingOnIsUse(t *testing.T) {
	b := newBoth(t, 3)
	b.wants(0, 1, 0)
	b.wants(100, 1, 1)
	b.wants(200, 1, 2)
	b.wants(1, 1, 0)
	b.wants(300, 1, 1)
	b.wants(201, 1, 2)
	b.wants(400, 1, 0)
	b.wants(500, 1, 1)
	b.wants(600, 1, 2)
	b.wantsExpects(401, 501, 601)

	b = newBoth(t, 3)
	b.wants(0, 1, 0)
	b.wants(1, 1, 0)
	b.wants(2, 1, 0)
	b.wants(100, 1, 1)
	b.wants(3, 1, 0)
	b.wants(200, 1, 2)
	b.wants(300, 1, 1)
	b.wantsExpects(4, 301, 201)
	b.wantsLong(4, 1, 1)
}

// Several that expect the same sector: the one that was used last goes on.
func TestSeveralExpect(t *testing.T) {
	b := newBoth(t, 4)
	b.wants(0, 10, 0)
	b.wants(5, 5, 1)
	b.wants(7, 3, 2)
	b.wantsExpects(10, 10, 10, -1)
	b.wants(10, 1, 2)
	b.wants(10, 1, 1)
	b.wants(10, 1, 0)
	b.wants(10, 1, 3)
	b.wantsExpects(11, 11, 11, 11)
	b.wants(11, 1, 3)
	b.wants(11, 1, 0)
	b.wants(11, 1, 1)
	b.wants(11, 1, 2)
	b.wants(11, 1, 3)
	b.wantsLong(3, 3, 3, 1)

	for n := 2; n <= 16; n++ {
		b := newBoth(t, n)
		for i := range n {
			b.wants(i, 50-i, i)
		}
		for i := range n {
			b.wants(50, i+1, n-1-i)
		}
		b.wantsLong(slices.Repeat([]int{2}, n)...)
	}
}

// A stream goes on, breaks off and goes on again.
func TestLong(t *testing.T) {
	b := newBoth(t, 1)
	for i := range 5 {
		b.wants(i, 1, 0)
		b.wantsLong(i + 1)
	}
	b.wants(6, 1, 0)
	b.wantsLong(1)
	b.wants(7, 3, 0)
	b.wantsLong(2)
	b.wants(7, 3, 0)
	b.wantsLong(1)
	b.wants(10, 1, 0)
	b.wants(11, 9, 0)
	b.wantsLong(3)
	b.wants(0, 20, 0)
	b.wantsLong(1)
	b.wantsExpects(20)

	b = newBoth(t, 2)
	b.wants(0, 1, 0)
	b.wants(1, 1, 0)
	b.wants(50, 1, 1)
	b.wants(2, 1, 0)
	b.wants(51, 1, 1)
	b.wantsLong(3, 2)
	b.wants(99, 1, 0)
	b.wantsLong(1, 2)
	b.wants(3, 1, 1)
	b.wantsLong(1, 1)
	b.wants(100, 1, 0)
	b.wantsLong(2, 1)
}

// A stream that goes on for long.
func TestLongOfMany(t *testing.T) {
	d, _ := New(3)
	d.Feed(5, 5)
	for i := range 200000 {
		if s, e := d.Feed(100+2*i, 2); s != 1 || e != api.OK {
			t.Fatalf("P14.1: the command %d: %d, %d", i, s, e)
		}
	}
	if n, e := d.Long(1); n != 200000 || e != api.OK {
		t.Errorf("P14.2: Long(1): %d, %d", n, e)
	}
	if s, e := d.Feed(10, 1); s != 0 || e != api.OK {
		t.Errorf("P14.1: the first stream: %d, %d", s, e)
	}
	if l := d.Expects(); !slices.Equal(l, []int{11, 400100, -1}) {
		t.Errorf("P14.2: Expects: %v", l)
	}
}

// What Expects tells is the caller's own, spare room too.
func TestExpectsIsTheCallersOwn(t *testing.T) {
	for n := 1; n <= 16; n++ {
		b := newBoth(t, n)
		for i := range 3 * n {
			first, second := b.d.Expects(), b.d.Expects()
			kept := slices.Clone(second)
			first = first[:cap(first)]
			for j := range first {
				first[j] = 7
			}
			if !slices.Equal(second, kept) {
				t.Fatalf("R4: two answers share memory: %v; want %v", second, kept)
			}
			b.look()
			b.feed(7*(i%3), 7)
			if !slices.Equal(second, kept) {
				t.Fatalf("R4: an answer changed behind a command: %v; want %v", second, kept)
			}
		}
	}
}

// Two detectors are apart.
func TestTwoDetectors(t *testing.T) {
	a, b := newBoth(t, 2), newBoth(t, 2)
	a.wants(0, 4, 0)
	b.look()
	b.wants(4, 1, 0)
	a.look()
	a.wants(4, 1, 0)
	b.wants(0, 4, 1)
	b.wants(4, 1, 1)
	a.wants(9, 1, 1)
	b.wants(5, 1, 1)
	b.wants(5, 1, 0)
	a.wants(5, 1, 0)
	a.wantsExpects(6, 10)
	b.wantsExpects(6, 6)
	a.wantsLong(3, 1)
	b.wantsLong(2, 3)
}
