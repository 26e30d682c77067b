package flat

import (
	"maps"
	"slices"
	"testing"

	"ferrule/api"
	"ferrule/runs"
)

// plain is the words of chapter 8: the sectors that go to a page, and no others.
type plain struct {
	capacity, most int
	page           map[int]int
}

// right is DOC.md's word; the bounds are asked ahead, so that the sum is one without bounds.
func (p *plain) right(lba, n int) bool {
	return n >= 1 && lba >= 0 && n <= p.capacity && lba <= p.capacity && lba+n <= p.capacity
}

// runs tells the maximal runs: each begins where no run goes on, and goes on as far as the pages do.
func (p *plain) runs() []api.Run {
	var l []api.Run
	for lba := range p.capacity {
		phys, there := p.page[lba]
		if left, ok := p.page[lba-1]; !there || ok && left == phys-1 {
			continue
		}
		n := 1
		for q, ok := p.page[lba+n]; ok && q == phys+n; q, ok = p.page[lba+n] {
			n++
		}
		l = append(l, api.Run{Lba: lba, Len: n, Phys: phys})
	}
	return l
}

// take makes these the pages, unless they have too many runs.
func (p *plain) take(page map[int]int) api.Errno {
	was := p.page
	p.page = page
	if len(p.runs()) > p.most {
		p.page = was
		return api.EFULL
	}
	return api.OK
}

func (p *plain) set(lba, n, phys int) api.Errno {
	if !p.right(lba, n) || phys < 0 || phys > 1048576 {
		return api.EARG
	}
	page := maps.Clone(p.page)
	for i := range n {
		page[lba+i] = phys + i
	}
	return p.take(page)
}

func (p *plain) clear(lba, n int) api.Errno {
	if !p.right(lba, n) {
		return api.EARG
	}
	page := maps.Clone(p.page)
	for i := range n {
		delete(page, lba+i)
	}
	return p.take(page)
}

// pieces lays the runs over the range: what they leave open are its holes.
func (p *plain) pieces(lba, n int) ([]api.Piece, api.Errno) {
	if !p.right(lba, n) {
		return nil, api.EARG
	}
	var l []api.Piece
	end := lba + n
	for _, r := range p.runs() {
		from, to := max(lba, r.Lba), min(end, r.Lba+r.Len)
		if from >= to {
			continue
		}
		if from > lba {
			l = append(l, api.Piece{Lba: lba, Len: from - lba, Phys: hole})
		}
		l = append(l, api.Piece{Lba: from, Len: to - from, Phys: r.Phys + from - r.Lba})
		lba = to
	}
	if lba < end {
		l = append(l, api.Piece{Lba: lba, Len: end - lba, Phys: hole})
	}
	return l, api.OK
}

// table tells an entry a sector.
func (p *plain) table() []int {
	l := make([]int, p.capacity)
	for lba := range l {
		l[lba] = hole
		if phys, ok := p.page[lba]; ok {
			l[lba] = phys
		}
	}
	return l
}

// twin is a flat map, a map of runs and the plain form, all told the same.
type twin struct {
	t *testing.T
	m *Map
	r *runs.Map
	p *plain
}

func twinOf(t *testing.T, capacity, most int) *twin {
	t.Helper()
	m, e := New(capacity, most)
	r, f := runs.New(capacity, most)
	if e != api.OK || m == nil || f != api.OK || r == nil {
		t.Fatalf("P9.1: New(%d, %d): %v, %d; of runs: %v, %d", capacity, most, m, e, r, f)
	}
	return &twin{t: t, m: m, r: r, p: &plain{capacity: capacity, most: most, page: map[int]int{}}}
}

// holding is a twin that maps what the entries say, with room for more runs
// than these as told (at least one in all).
func holding(t *testing.T, entries []int, more int) *twin {
	t.Helper()
	page := map[int]int{}
	for lba, phys := range entries {
		if phys != hole {
			page[lba] = phys
		}
	}
	l := (&plain{capacity: len(entries), page: page}).runs()
	c := twinOf(t, len(entries), max(1, len(l)+more))
	for _, r := range l {
		e, f := c.m.Set(r.Lba, r.Len, r.Phys), c.r.Set(r.Lba, r.Len, r.Phys)
		if e != api.OK || f != api.OK {
			t.Fatalf("P9.1: Set of the run %v of %v: %d; of runs: %d", r, l, e, f)
		}
	}
	c.p.page = page
	return c
}

// done holds a call's answer against the others'; behind it all of them tell
// the same (behind an error, what was: the plain form does not change then).
func (c *twin) done(name string, got, runs, want api.Errno) {
	c.t.Helper()
	if got != want {
		c.t.Fatalf("P9.1: %s: %d, want %d; %v of at most %d runs", name, got, want, c.m.Runs(), c.p.most)
	}
	if got != runs {
		c.t.Fatalf("P9.2: %s: %d, of runs: %d; %v of at most %d runs", name, got, runs, c.m.Runs(), c.p.most)
	}
	c.wantSame(name)
}

func (c *twin) set(lba, n, phys int) api.Errno {
	c.t.Helper()
	want := c.p.set(lba, n, phys)
	c.done("Set", c.m.Set(lba, n, phys), c.r.Set(lba, n, phys), want)
	return want
}

func (c *twin) clear(lba, n int) api.Errno {
	c.t.Helper()
	want := c.p.clear(lba, n)
	c.done("Clear", c.m.Clear(lba, n), c.r.Clear(lba, n), want)
	return want
}

// call is one Set, or (phys of a hole) one Clear.
func (c *twin) call(lba, n, phys int) api.Errno {
	c.t.Helper()
	if phys == hole {
		return c.clear(lba, n)
	}
	return c.set(lba, n, phys)
}

// wantSame asks for all that the maps tell without a range, and for all of them as one range.
func (c *twin) wantSame(behind string) {
	c.t.Helper()
	want := c.p.runs()
	if got := c.m.Runs(); !slices.Equal(got, want) {
		c.t.Fatalf("P9.1: behind %s Runs: %v, want %v", behind, got, want)
	}
	if got := c.m.Count(); got != len(want) {
		c.t.Fatalf("P9.1: behind %s Count: %d, want %d", behind, got, len(want))
	}
	if c.m.Capacity() != c.p.capacity || c.m.Most() != c.p.most {
		c.t.Fatalf("P9.1: behind %s Capacity %d, Most %d", behind, c.m.Capacity(), c.m.Most())
	}
	if got, want := c.m.Table(), c.p.table(); !slices.Equal(got, want) {
		c.t.Fatalf("P9.1: behind %s Table: %v, want %v", behind, got, want)
	}
	if !slices.Equal(c.m.Runs(), c.r.Runs()) || c.m.Count() != c.r.Count() {
		c.t.Fatalf("P9.2: behind %s Runs: %v, of runs: %v", behind, c.m.Runs(), c.r.Runs())
	}
	if c.m.Capacity() != c.r.Capacity() || c.m.Most() != c.r.Most() {
		c.t.Fatalf("P9.2: behind %s Capacity %d, Most %d; of runs: %d, %d", behind, c.m.Capacity(), c.m.Most(), c.r.Capacity(), c.r.Most())
	}
	c.wantGets()
	c.wantRange(0, c.p.capacity)
}

// wantGet holds one sector's page against the others'.
func (c *twin) wantGet(lba int) {
	c.t.Helper()
	got, there := c.m.Get(lba)
	if phys, ok := c.p.page[lba]; got != phys || there != ok {
		c.t.Fatalf("P9.1: Get(%d): %d, %v; want %d, %v; %v", lba, got, there, phys, ok, c.m.Runs())
	}
	if phys, ok := c.r.Get(lba); got != phys || there != ok {
		c.t.Fatalf("P9.2: Get(%d): %d, %v; of runs: %d, %v", lba, got, there, phys, ok)
	}
}

// wantGets asks for each sector, and for those just beyond both ends; the table tells the same.
func (c *twin) wantGets() {
	c.t.Helper()
	table := c.m.Table()
	for lba := -2; lba < c.p.capacity+2; lba++ {
		c.wantGet(lba)
		if lba < 0 || lba >= c.p.capacity {
			continue
		}
		want := hole
		if phys, ok := c.m.Get(lba); ok {
			want = phys
		}
		if table[lba] != want {
			c.t.Fatalf("P9.1: Table has %d for the sector %d, Get tells %d", table[lba], lba, want)
		}
	}
}

// wantRange holds one range's pieces against the others'.
func (c *twin) wantRange(lba, n int) {
	c.t.Helper()
	want, e := c.p.pieces(lba, n)
	got, f := c.m.Range(lba, n)
	if !slices.Equal(got, want) || f != e {
		c.t.Fatalf("P9.1: Range(%d, %d): %v, %d; want %v, %d; %v", lba, n, got, f, want, e, c.m.Runs())
	}
	if l, g := c.r.Range(lba, n); !slices.Equal(got, l) || f != g {
		c.t.Fatalf("P9.2: Range(%d, %d): %v, %d; of runs: %v, %d", lba, n, got, f, l, g)
	}
}

// wantRanges asks for each range, those that are just not right among them.
func (c *twin) wantRanges() {
	c.t.Helper()
	for lba := -1; lba <= c.p.capacity+1; lba++ {
		for n := -1; n <= c.p.capacity+1; n++ {
			c.wantRange(lba, n)
		}
	}
}

// wantSetBack sets what Range tells, piece by piece: nothing changes. (A piece
// from behind the page 2^20 on is refused, as P8.2 says.)
func (c *twin) wantSetBack(lba, n int) {
	c.t.Helper()
	was := c.m.Table()
	l, _ := c.m.Range(lba, n)
	for _, p := range l {
		var got, want api.Errno
		switch {
		case p.Phys == hole:
			got = c.m.Clear(p.Lba, p.Len)
		case p.Phys > 1<<20:
			got, want = c.m.Set(p.Lba, p.Len, p.Phys), api.EARG
		default:
			got = c.m.Set(p.Lba, p.Len, p.Phys)
		}
		if got != want || !slices.Equal(c.m.Table(), was) {
			c.t.Fatalf("P9.1: the piece %v set back: %d, want %d; %v, was %v", p, got, want, c.m.Table(), was)
		}
	}
	c.wantSame("what Range told, set back")
}
