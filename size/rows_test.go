package size

import (
	"testing"

	"ferrule/api"
	"ferrule/leaf"
)

// somewhere are numbers of each kind, those among them at which a size changes.
var (
	someBlocks   = []int{8, 9, 15, 16, 17, 20, 31, 32, 36, 40, 48, 63, 64}
	somePages    = []int{4, 5, 7, 8, 9, 15, 16, 31, 32}
	someCapacity = []int{1, 2, 3, 4, 8, 9, 32, 33, 48, 63, 64, 65, 127, 128, 129, 250, 400, 487, 488, 489, 495, 496, 497, 511, 512}
	someRuns     = []int{1, 2, 13, 20, 46, 127, 128, 129, 300, 512}
)

// The Configs of some numbers of each kind, in their spans.
func TestSomeOfEach(t *testing.T) {
	good := 0
	for _, b := range someBlocks {
		for _, p := range somePages {
			for _, c := range someCapacity {
				for _, m := range someRuns {
					for _, w := range []int{1, min(p, c)} {
						for spare := range 5 {
							if wantSizes(t, "some", config(b, p, c, spare, m, w)) {
								good++
							}
						}
					}
				}
			}
		}
	}
	if good < 1000 {
		t.Errorf("%d may be", good)
	}
}

// Each flash: the numbers of its pages have one byte or two.
func TestEachFlash(t *testing.T) {
	for b := 8; b <= 64; b++ {
		for p := 4; p <= 32; p++ {
			wantSizes(t, "flash", config(b, p, 100, 1, 90, 4))
		}
	}
}

// Each capacity with each number of pages, and each with each window.
func TestEachCapacity(t *testing.T) {
	for c := 1; c <= 512; c++ {
		for p := 4; p <= 32; p++ {
			wantSizes(t, "pages", config(50, p, c, c%5, 128, 1))
		}
		for w := 1; w <= min(32, c); w++ {
			wantSizes(t, "window", config(64, 32, c, 2, 200, w))
		}
	}
}

// Each number of runs: what a snapshot comes to.
func TestEachRuns(t *testing.T) {
	for m := 1; m <= 512; m++ {
		for _, p := range somePages {
			for _, c := range []int{60, 127, 128} {
				wantSizes(t, "runs", config(64, p, c, 0, m, p))
			}
		}
	}
}

// The least number of runs that a Config asks for, about which Good turns by that
// line alone, if it has room otherwise.
func TestLeastRuns(t *testing.T) {
	d := dice(161)
	turned := 0
	for range 20000 {
		c := d.config()
		c.MaxRuns -= plainRoom(c).runs
		if c.MaxRuns < 2 || c.MaxRuns > 511 {
			continue
		}
		for k := -1; k <= 1; k++ {
			wantSizes(t, "least runs", with(c, "MaxRuns", c.MaxRuns+k))
		}
		if Good(c) {
			turned++
			if Good(with(c, "MaxRuns", c.MaxRuns-1)) {
				t.Fatalf("P16.1: Good(%v) with one run less", c)
			}
		}
	}
	if turned < 300 {
		t.Errorf("%d turned", turned)
	}
}

// The least number of blocks with which a Config may be, and the greatest one with
// which it may not.
func TestLeastBlocks(t *testing.T) {
	d := dice(162)
	byData, byMount := 0, 0
	for range 4000 {
		c := d.config()
		c.Capacity = min(c.Capacity, 300)
		c.Window = min(c.Window, c.Capacity)
		c.MaxRuns = max(1, min(512, c.MaxRuns-plainRoom(c).runs))
		ahead := false
		for b := 8; b <= 64; b++ {
			c.Blocks = b
			good := wantSizes(t, "least blocks", c)
			if good && !ahead && b > 8 {
				less := plainRoom(with(c, "Blocks", b-1))
				if less.data < 0 && less.mount >= 0 {
					byData++
				}
				if less.mount < 0 && less.data >= 0 {
					byMount++
				}
			}
			ahead = good
		}
	}
	if byData < 100 || byMount < 10 {
		t.Errorf("%d by room, %d by the mount", byData, byMount)
	}
}

// Any Configs, and calls of any numbers.
func TestManyConfigs(t *testing.T) {
	d := dice(163)
	good := 0
	for range 100000 {
		c := d.config()
		if wantSizes(t, "many", c) {
			good++
			wantCall(t, "many", c, d.from(1, c.Capacity), d.from(0, 1000))
		}
		wantCall(t, "many", c, d.from(-1, 513), d.from(-1, 1001))
		c = with(c, numbers[d.roll(6)], d.from(-1, 513))
		wantSizes(t, "many, one changed", c)
		wantCall(t, "many, one changed", c, d.from(-1, 513), d.from(-1, 1001))
	}
	if good < 1000 {
		t.Errorf("%d may be", good)
	}
}

// What T6 says of sizes: a mount reads less than all pages.
func TestMountReadsLessThanAll(t *testing.T) {
	good := 0
	for b := 8; b <= 64; b++ {
		for p := 4; p <= 32; p++ {
			for _, c := range someCapacity {
				for _, m := range someRuns {
					for spare := range 5 {
						k := config(b, p, c, spare, m, min(p, c))
						s, e := Of(k)
						if e != api.OK || !Good(k) {
							continue
						}
						good++
						if s.MountReads >= b*p || s.MountReads < 1 {
							t.Fatalf("T6: of %v: a mount reads %d pages", k, s.MountReads)
						}
					}
				}
			}
		}
	}
	if good < 10000 {
		t.Errorf("%d may be", good)
	}
}

// No Config in its spans asks for a stream that leaf refuses: the greatest one.
func TestStreamsAreTaken(t *testing.T) {
	s, _ := Of(config(64, 32, 512, 4, 512, 1))
	if n := leaf.Pages(2 + 512*s.RunBytes); n != s.SnapPages || n == 0 {
		t.Errorf("P16.1: the greatest snapshot: %d pages; want %d", s.SnapPages, n)
	}
	s, _ = Of(config(64, 4, 512, 4, 512, 1))
	if n := leaf.Pages(2 + s.OpsMost*s.OpBytes); n != s.RecPages || n == 0 || s.OpsMost != 136 {
		t.Errorf("P16.1: the greatest record: %d pages; want %d", s.RecPages, n)
	}
}

// Greatest of any Configs, held against the words and against Good of each capacity.
func TestManyGreatest(t *testing.T) {
	d := dice(164)
	found, none := 0, 0
	for i := range 1500 {
		c := d.config()
		if i%3 == 0 {
			c.Blocks, c.MaxRuns = d.from(40, 64), d.from(40, 200)
			c.Pages = max(c.Pages, 8)
		}
		greatest := wantGreatest(t, "many", c, anyCapacity[d.roll(len(anyCapacity))], d.from(1, 512))
		if greatest == 0 {
			none++
		} else {
			found++
		}
		for capacity := c.Window; capacity <= 512; capacity++ {
			good := Good(with(c, "Capacity", capacity))
			if good && capacity > greatest || !good && capacity == greatest {
				t.Fatalf("P16.2: Greatest of %v is %d; Good of %d: %v", c, greatest, capacity, good)
			}
		}
		for capacity := -1; capacity < c.Window; capacity++ {
			if Good(with(c, "Capacity", capacity)) {
				t.Fatalf("P16.1: Good(%v)", with(c, "Capacity", capacity))
			}
		}
	}
	if found < 300 || none < 300 {
		t.Errorf("%d found, %d none", found, none)
	}
}
