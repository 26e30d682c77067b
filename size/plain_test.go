package size

import (
	"encoding/binary"
	"math"
	"testing"

	"ferrule/api"
)

// ends are numbers that are in no span, whichever number they stand for.
var ends = []int{
	math.MinInt, math.MinInt + 1, -1 << 62, -1 << 32, -1<<32 + 8, -1 << 31, -1001, -513,
	1 << 16, 1<<31 - 1, 1 << 31, 1 << 32, 1<<32 + 8, 1 << 62, math.MaxInt - 1, math.MaxInt,
}

// config tells a Config, its numbers in the order in which api has them.
func config(blocks, pages, capacity, spare, runs, window int) api.Config {
	return api.Config{Blocks: blocks, Pages: pages, Capacity: capacity, Spare: spare, MaxRuns: runs, Window: window}
}

// The six numbers, by name.
var numbers = []string{"Blocks", "Pages", "Capacity", "Spare", "MaxRuns", "Window"}

// with tells a Config in which one number is another.
func with(c api.Config, number string, v int) api.Config {
	switch number {
	case "Blocks":
		c.Blocks = v
	case "Pages":
		c.Pages = v
	case "Capacity":
		c.Capacity = v
	case "Spare":
		c.Spare = v
	case "MaxRuns":
		c.MaxRuns = v
	case "Window":
		c.Window = v
	}
	return c
}

// dice rolls numbers, the same ones each time.
type dice uint64

func (d *dice) roll(n int) int {
	*d = *d*6364136223846793005 + 1442695040888963407
	return int(uint64(*d)>>33) % n
}

// from rolls a number from least to most, each end of them often.
func (d *dice) from(least, most int) int {
	switch d.roll(8) {
	case 0:
		return least
	case 1:
		return most
	}
	return least + d.roll(most-least+1)
}

// config rolls a Config, its numbers in their spans.
func (d *dice) config() api.Config {
	c := config(d.from(8, 64), d.from(4, 32), d.from(1, 512), d.from(0, 4), d.from(1, 512), 0)
	if d.roll(2) == 0 {
		c.Capacity = d.from(1, 128)
	}
	if d.roll(2) == 0 {
		c.MaxRuns = d.from(1, 130)
	}
	c.Window = d.from(1, min(c.Pages, c.Capacity))
	c.Flat = d.roll(2) == 0
	return c
}

// plainUp is the least number of b's that are no less than a, put one to another.
func plainUp(a, b int) int {
	k := 0
	for sum := 0; sum < a; sum += b {
		k++
	}
	return k
}

// plainLen is how many bytes the library's form of the same numbers has.
func plainLen(v int) int {
	var room [binary.MaxVarintLen64]byte
	return binary.PutUvarint(room[:], uint64(v))
}

// plainPages is how many pages a stream has: one at least.
func plainPages(bytes int) int { return max(1, plainUp(bytes, 32)) }

// plainSpans is the first line of what may be.
func plainSpans(c api.Config) bool {
	switch {
	case c.Blocks < 8 || c.Blocks > 64, c.Pages < 4 || c.Pages > 32, c.Spare < 0 || c.Spare > 4:
		return false
	case c.Capacity < 1 || c.Capacity > 512, c.MaxRuns < 1 || c.MaxRuns > 512:
		return false
	}
	return c.Window >= 1 && c.Window <= c.Pages && c.Window <= c.Capacity
}

// plainSizes is the chapter's words of the sizes, one after the other.
func plainSizes(c api.Config) Sizes {
	B, P, C, S, M, W := c.Blocks, c.Pages, c.Capacity, c.Spare, c.MaxRuns, c.Window
	runBytes := plainLen(C) + plainLen(C) + plainLen(2*B*P+1)
	snapPages := plainPages(plainLen(M) + M*runBytes)
	opsMost := 4 + S + plainUp(C, P)
	if plainUp(C, P) < P {
		opsMost = 4 + S + P
	}
	opBytes := plainLen(2*C+1) + plainLen(C) + plainLen(2*B*P+3)
	recPages := plainPages(plainLen(opsMost) + opsMost*opBytes)
	logPages := recPages + recPages + P + snapPages
	epochBlocks := plainUp(snapPages+logPages, P)
	return Sizes{
		RunBytes:    runBytes,
		SnapPages:   snapPages,
		OpsMost:     opsMost,
		OpBytes:     opBytes,
		RecPages:    recPages,
		LogPages:    logPages,
		EpochBlocks: epochBlocks,
		MetaBlocks:  epochBlocks + plainUp(snapPages, P) + 3,
		Windows:     plainUp(C, W),
		Slack:       plainUp(C, P) + 8 + S + S + S + S,
		MountReads:  B + P*(epochBlocks+2+S) + P*(epochBlocks+2+S),
	}
}

// room tells how much there is beyond what each of the other three lines of what
// may be asks for, of a Config whose numbers are in their spans; below 0 it is too
// little. (MountReads must be less than all pages: one of them is asked for.)
type room struct{ runs, data, mount int }

func plainRoom(c api.Config) room {
	s := plainSizes(c)
	return room{
		runs:  c.MaxRuns - (4*s.Windows + s.Slack),
		data:  (c.Blocks-c.Spare-s.MetaBlocks-8)*c.Pages - 3*c.Capacity,
		mount: c.Blocks*c.Pages - s.MountReads - 1,
	}
}

func plainGood(c api.Config) bool {
	if !plainSpans(c) {
		return false
	}
	r := plainRoom(c)
	return r.runs >= 0 && r.data >= 0 && r.mount >= 0
}

func plainRewrites(c api.Config, n int) int {
	return plainUp(n, c.Pages) + 3 + c.Spare + c.Spare
}

// plainPrograms is the chapter's words of CallPrograms, sum by sum.
func plainPrograms(c api.Config, n, f int) int {
	s := plainSizes(c)
	anew := plainRewrites(c, n)
	records := 6 + anew + 4*plainUp(n+anew*c.Window, c.Pages)
	sum := 4*n + 4*anew*c.Window + 8*c.Pages
	sum += 2 * records * s.RecPages
	sum += 2 * s.SnapPages
	sum += 4*c.Pages + 4*f*c.Pages
	return sum
}

// plainGreatest asks each capacity from the window on, from the least one up; 0, if
// there is none.
func plainGreatest(c api.Config) int {
	greatest := 0
	for capacity := 1; capacity <= 512; capacity++ {
		if capacity >= c.Window && plainGood(with(c, "Capacity", capacity)) {
			greatest = capacity
		}
	}
	return greatest
}

// wantSizes holds Of and Good against the words, whatever Flat is, and tells whether
// the Config may be. (It ends the test at the first fault: there are many Configs.)
func wantSizes(t *testing.T, name string, c api.Config) bool {
	t.Helper()
	want, wantE := Sizes{}, api.EARG
	if plainSpans(c) {
		want, wantE = plainSizes(c), api.OK
	}
	good := plainGood(c)
	for range 2 {
		if s, e := Of(c); s != want || e != wantE {
			t.Fatalf("P16.1: %s: Of(%v): %+v, %d; want %+v, %d", name, c, s, e, want, wantE)
		}
		if got := Good(c); got != good {
			t.Fatalf("P16.1: %s: Good(%v): %v", name, c, got)
		}
		c.Flat = !c.Flat
	}
	return good
}

// wantCall holds Rewrites and CallPrograms against the words, whatever Flat is.
func wantCall(t *testing.T, name string, c api.Config, n, f int) {
	t.Helper()
	anew, anewE, programs, programsE := 0, api.EARG, 0, api.EARG
	if plainGood(c) && n >= 1 && n <= c.Capacity {
		anew, anewE = plainRewrites(c, n), api.OK
		if f >= 0 && f <= 1000 {
			programs, programsE = plainPrograms(c, n, f), api.OK
		}
	}
	for range 2 {
		if got, e := Rewrites(c, n); got != anew || e != anewE {
			t.Fatalf("P16.2: %s: Rewrites(%v, %d): %d, %d; want %d, %d", name, c, n, got, e, anew, anewE)
		}
		if got, e := CallPrograms(c, n, f); got != programs || e != programsE {
			t.Fatalf("P16.2: %s: CallPrograms(%v, %d, %d): %d, %d; want %d, %d", name, c, n, f, got, e, programs, programsE)
		}
		c.Flat = !c.Flat
	}
}

// wantGreatest holds Greatest against the words, whatever Flat is and whatever
// capacity is handed in, and tells it.
func wantGreatest(t *testing.T, name string, c api.Config, capacities ...int) int {
	t.Helper()
	want, wantE := plainGreatest(c), api.OK
	if want == 0 {
		wantE = api.EARG
	}
	for _, capacity := range append(capacities, c.Capacity) {
		c.Capacity = capacity
		c.Flat = !c.Flat
		if got, e := Greatest(c); got != want || e != wantE {
			t.Fatalf("P16.2: %s: Greatest(%v): %d, %d; want %d, %d", name, c, got, e, want, wantE)
		}
	}
	return want
}
