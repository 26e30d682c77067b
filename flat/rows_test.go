package flat

import (
	"slices"
	"testing"

	"ferrule/api"
)

// allEntries does something with each list of entries of that length, each from
// a hole up to below the number of pages.
func allEntries(length, pages int, do func([]int)) {
	entries := make([]int, length)
	for i := range entries {
		entries[i] = hole
	}
	for at := 0; at < length; {
		do(entries)
		for at = 0; at < length; at++ {
			if entries[at]++; entries[at] < pages {
				break
			}
			entries[at] = hole
		}
	}
}

// Each small map, each range, each call: with no run more allowed than there
// are, with one, and with all that could be.
func TestAllSmallMaps(t *testing.T) {
	const length, pages = 4, 4
	maps := 0
	allEntries(length, pages, func(entries []int) {
		maps++
		for _, more := range []int{0, 1, length} {
			c := holding(t, entries, more)
			c.wantSame("all runs set")
			c.wantRanges()
			for lba := range length {
				for n := 1; lba+n <= length; n++ {
					c.wantSetBack(lba, n)
					for phys := hole; phys < pages; phys++ {
						holding(t, entries, more).call(lba, n, phys)
					}
				}
			}
		}
	})
	if maps != 625 {
		t.Fatalf("%d maps, want 625", maps)
	}
}

// Each row of calls up to a length, on a map of few sectors.
func TestAllShortRows(t *testing.T) {
	type step struct{ lba, n, phys int }
	var steps []step
	for lba := range 3 {
		for n := 1; lba+n <= 3; n++ {
			for _, phys := range []int{hole, lba, lba + 1} {
				steps = append(steps, step{lba, n, phys})
			}
		}
	}
	for most := 1; most <= 3; most++ {
		for i := range len(steps) * len(steps) * len(steps) {
			c := twinOf(t, 3, most)
			for rest, k := i, 0; k < 3; rest, k = rest/len(steps), k+1 {
				s := steps[rest%len(steps)]
				c.call(s.lba, s.n, s.phys)
			}
			c.wantSetBack(0, 3)
		}
	}
}

// dice is a row of numbers that is the same at every run.
type dice uint64

func (d *dice) roll(n int) int {
	*d = *d*6364136223846793005 + 1442695040888963407
	return int(uint64(*d) >> 33 % uint64(n))
}

// pages tells a page for a range from lba on: often one that goes on with others.
func (d *dice) pages(lba int) int {
	switch k := d.roll(20); {
	case k < 12:
		return lba + 1000*d.roll(3)
	case k < 17:
		return d.roll(30)
	case k == 17:
		return 1<<20 - d.roll(40)
	case k == 18:
		return 1<<20 - 100 + lba
	}
	return []int{-1, -2, 0, 1 << 20, 1<<20 + 1}[d.roll(5)]
}

// rangeOf tells a range, mostly one that is right.
func (d *dice) rangeOf(capacity, longest int) (lba, n int) {
	if d.roll(30) == 0 {
		k := wrongRanges()
		r := k[d.roll(len(k))]
		return r[0], r[1]
	}
	lba = d.roll(capacity)
	n = 1 + d.roll(min(longest, capacity-lba))
	if d.roll(60) == 0 {
		return 0, capacity
	}
	return lba, n
}

// mixedRow is a long row of calls; the map fills up, and empties, in turns. It
// counts what was answered.
func mixedRow(c *twin, d *dice, calls, longest int, answered map[api.Errno]int) {
	capacity := c.p.capacity
	clears, refused := 30, 0
	for i := range calls {
		if i%200 == 0 {
			clears = 10 + d.roll(50)
		}
		lba, n := d.rangeOf(capacity, longest)
		e := api.OK
		if d.roll(100) < clears {
			e = c.clear(lba, n)
		} else {
			e = c.set(lba, n, d.pages(max(0, min(lba, capacity))))
		}
		answered[e]++
		if e == api.EFULL {
			refused++
		}
		c.wantRange(lba, n)
		c.wantRange(d.rangeOf(capacity, capacity))
		if i%20 == 0 {
			c.wantSetBack(d.rangeOf(capacity, capacity))
			c.wantSetBack(0, capacity)
		}
		if refused > 3 && d.roll(10) == 0 { // room again, else all that is left is refusals
			refused = 0
			from := d.roll(capacity)
			c.clear(from, 1+d.roll(capacity-from))
		}
	}
}

func TestLongRows(t *testing.T) {
	answered := map[api.Errno]int{}
	for _, k := range []struct{ capacity, most, longest, calls int }{
		{1, 1, 1, 400}, {2, 1, 2, 600}, {3, 2, 3, 1000}, {5, 512, 5, 1000}, {8, 1, 8, 1000}, {10, 3, 6, 3000}, {10, 10, 4, 3000},
		{40, 2, 12, 2000}, {40, 6, 12, 3000}, {40, 20, 12, 3000}, {40, 40, 3, 3000}, {40, 512, 40, 1500},
		{511, 9, 90, 400}, {512, 60, 20, 600}, {512, 512, 4, 800}, {512, 512, 60, 400}, {512, 1, 512, 200},
	} {
		for seed := range 3 {
			d := dice(seed*1000 + k.capacity*7 + k.most)
			mixedRow(twinOf(t, k.capacity, k.most), &d, k.calls, k.longest, answered)
		}
	}
	for _, e := range []api.Errno{api.OK, api.EARG, api.EFULL} {
		if answered[e] < 100 {
			t.Errorf("%d calls answered %d", answered[e], e)
		}
	}
}

// At and around the most runs: a map that is nearly full, and calls of few sectors.
func TestLongRowsNearFull(t *testing.T) {
	for _, k := range []struct{ capacity, more int }{{12, 0}, {12, 1}, {12, 2}, {60, 0}, {60, 3}, {512, 0}, {512, 2}} {
		d := dice(k.capacity + 31*k.more)
		entries := make([]int, k.capacity)
		for i := range entries {
			entries[i] = i + 1000*d.roll(4)
			if d.roll(3) == 0 { // more of them than the calls below clear: the runs become more
				entries[i] = hole
			}
		}
		c := holding(t, entries, k.more)
		c.wantSame("all runs set")
		full := 0
		for range 600 {
			lba := d.roll(k.capacity)
			n, phys := 1, lba+1000*d.roll(4)
			if lba+2 <= k.capacity && d.roll(10) == 0 {
				n = 2
			}
			if d.roll(6) == 0 {
				phys = hole
			}
			if c.call(lba, n, phys) == api.EFULL {
				full++
			}
		}
		c.wantSetBack(0, k.capacity)
		if full == 0 {
			t.Errorf("a map of %d sectors, %d runs more: never full", k.capacity, k.more)
		}
	}
}

// The same calls have the same answers (R5).
func TestSameCallsSameAnswers(t *testing.T) {
	row := func() (answered []api.Errno, runs []api.Run, tables []int) {
		c := twinOf(t, 40, 15)
		d := dice(5)
		for range 300 {
			lba, n := d.rangeOf(40, 8)
			e := api.OK
			if d.roll(3) == 0 {
				e = c.clear(lba, n)
			} else {
				e = c.set(lba, n, d.pages(max(0, min(lba, 40))))
			}
			answered = append(answered, e)
			runs = append(runs, c.m.Runs()...)
			tables = append(tables, c.m.Table()...)
		}
		return answered, runs, tables
	}
	answered, runs, tables := row()
	again, runsAgain, tablesAgain := row()
	if !slices.Equal(answered, again) || !slices.Equal(runs, runsAgain) || !slices.Equal(tables, tablesAgain) {
		t.Errorf("R5: the same calls answered otherwise")
	}
}
