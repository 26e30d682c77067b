package span

import (
	"maps"
	"slices"
	"testing"

	"ferrule/api"
	"ferrule/flat"
	"ferrule/runs"
	"ferrule/tree"
)

// plain is the words of chapter 8: the sectors that go to a page, and no others.
// It is a Map, and neither of runs nor flat.
type plain struct {
	capacity, most int
	page           map[int]int
}

func plainOf(capacity, most int) *plain {
	return &plain{capacity: capacity, most: most, page: map[int]int{}}
}

// right is DOC.md's word; the bounds are asked ahead, so that the sum is one without bounds.
func (p *plain) right(lba, n int) bool {
	return n >= 1 && lba >= 0 && n <= p.capacity && lba <= p.capacity && lba+n <= p.capacity
}

// take makes these the pages, unless they have too many runs.
func (p *plain) take(page map[int]int) api.Errno {
	was := p.page
	p.page = page
	if p.Count() > p.most {
		p.page = was
		return api.EFULL
	}
	return api.OK
}

func (p *plain) Set(lba, n, phys int) api.Errno {
	if !p.right(lba, n) || phys < 0 || phys > 1048576 {
		return api.EARG
	}
	page := maps.Clone(p.page)
	for i := range n {
		page[lba+i] = phys + i
	}
	return p.take(page)
}

func (p *plain) Clear(lba, n int) api.Errno {
	if !p.right(lba, n) {
		return api.EARG
	}
	page := maps.Clone(p.page)
	for i := range n {
		delete(page, lba+i)
	}
	return p.take(page)
}

func (p *plain) Get(lba int) (int, bool) {
	phys, ok := p.page[lba]
	return phys, ok
}

// Runs tells the maximal runs: each begins where no run goes on, and goes on as far as the pages do.
func (p *plain) Runs() []api.Run {
	var l []api.Run
	for lba := range p.capacity {
		phys, there := p.page[lba]
		if left, ok := p.page[lba-1]; !there || ok && left == phys-1 {
			continue
		}
		n := 1
		for q, ok := p.page[lba+n]; ok && q == phys+n; q, ok = p.page[lba+n] {
			n++
		}
		l = append(l, api.Run{Lba: lba, Len: n, Phys: phys})
	}
	return l
}

// Range lays the runs over the range: what they leave open are its holes.
func (p *plain) Range(lba, n int) ([]api.Piece, api.Errno) {
	if !p.right(lba, n) {
		return nil, api.EARG
	}
	var l []api.Piece
	end := lba + n
	for _, r := range p.Runs() {
		from, to := max(lba, r.Lba), min(end, r.Lba+r.Len)
		if from >= to {
			continue
		}
		if from > lba {
			l = append(l, api.Piece{Lba: lba, Len: from - lba, Phys: -1})
		}
		l = append(l, api.Piece{Lba: from, Len: to - from, Phys: r.Phys + from - r.Lba})
		lba = to
	}
	if lba < end {
		l = append(l, api.Piece{Lba: lba, Len: end - lba, Phys: -1})
	}
	return l, api.OK
}

func (p *plain) Count() int    { return len(p.Runs()) }
func (p *plain) Capacity() int { return p.capacity }
func (p *plain) Most() int     { return p.most }

// apply is P10.2's words: the changes one after the other; with an error the pages that were.
func (p *plain) apply(ops []api.Op) api.Errno {
	was := p.page
	for _, o := range ops {
		e := api.OK
		if o.Phys == -1 {
			e = p.Clear(o.Lba, o.Len)
		} else {
			e = p.Set(o.Lba, o.Len, o.Phys)
		}
		if e != api.OK {
			p.page = was
			return e
		}
	}
	return api.OK
}

// mine is a map of the tests' own that hands all on to another one.
type mine struct{ Map }

// kinds are the maps that Apply and Same are tried on: both kinds, and three
// that are of neither.
var kinds = []struct {
	name, kind string
	make       func(t *testing.T, capacity, most int) Map
}{
	{"runs", "runs", func(t *testing.T, capacity, most int) Map { return made(t, false, capacity, most) }},
	{"flat", "flat", func(t *testing.T, capacity, most int) Map { return made(t, true, capacity, most) }},
	{"mine of runs", "other", func(t *testing.T, capacity, most int) Map { return mine{made(t, false, capacity, most)} }},
	{"mine of flat", "other", func(t *testing.T, capacity, most int) Map { return &mine{made(t, true, capacity, most)} }},
	{"plain", "other", func(_ *testing.T, capacity, most int) Map { return plainOf(capacity, most) }},
}

func made(t *testing.T, isFlat bool, capacity, most int) Map {
	t.Helper()
	m, e := New(isFlat, capacity, most)
	if e != api.OK || m == nil {
		t.Fatalf("P10.1: New(%v, %d, %d): %v, %d", isFlat, capacity, most, m, e)
	}
	return m
}

// inside is all that the tree and the arena of a map of runs tell; of another
// map it is empty.
type inside struct {
	root  uint32
	views []tree.View
	free  []uint32
}

func insideOf(m Map) inside {
	r, ok := m.(*runs.Map)
	if !ok {
		return inside{}
	}
	return inside{r.Tree().Root(), r.Tree().Views(), r.Arena().Free()}
}

func (s inside) equal(o inside) bool {
	return s.root == o.root && slices.Equal(s.views, o.views) && slices.Equal(s.free, o.free)
}

// trial is a map, and the plain form that is told the same.
type trial struct {
	t    *testing.T
	name string
	m    Map
	p    *plain
}

// trials are a trial of each kind.
func trials(t *testing.T, capacity, most int) []*trial {
	t.Helper()
	var l []*trial
	for _, k := range kinds {
		l = append(l, &trial{t, k.name, k.make(t, capacity, most), plainOf(capacity, most)})
	}
	return l
}

// first sets what a map has ahead of a test, call by call (-1: a Clear).
func (c *trial) first(calls []api.Op) {
	c.t.Helper()
	for _, o := range calls {
		one := []api.Op{o}
		e := c.p.apply(one)
		f := api.OK
		if o.Phys == -1 {
			f = c.m.Clear(o.Lba, o.Len)
		} else {
			f = c.m.Set(o.Lba, o.Len, o.Phys)
		}
		if e != api.OK || f != api.OK {
			c.t.Fatalf("%s: the call %v ahead of the test: %d, plain %d", c.name, o, f, e)
		}
	}
}

// apply holds Apply's answer, and all that the map tells behind it, against the
// plain form's; what is handed in is not changed, nor is its spare room.
func (c *trial) apply(ops []api.Op) api.Errno {
	c.t.Helper()
	handed := append(slices.Clone(ops), api.Op{Lba: 71, Len: 72, Phys: 73}, api.Op{Lba: 74, Len: 75, Phys: 76})
	same := slices.Clone(handed)
	was := insideOf(c.m)
	want := c.p.apply(ops)
	if got := Apply(c.m, handed[:len(ops)]); got != want {
		c.t.Fatalf("P10.2: %s: Apply(%v): %d, want %d; %v of at most %d", c.name, ops, got, want, c.m.Runs(), c.p.most)
	}
	if !slices.Equal(handed, same) {
		c.t.Fatalf("R4: %s: Apply changed what was handed in: %v, was %v", c.name, handed, same)
	}
	if want != api.OK && !insideOf(c.m).equal(was) {
		c.t.Fatalf("R3: %s: behind Apply(%v), %d: %v, was %v", c.name, ops, want, insideOf(c.m), was)
	}
	c.wantSame("P10.2")
	return want
}

// wantSame asks for all that a map tells.
func (c *trial) wantSame(promise string) {
	c.t.Helper()
	want := c.p.Runs()
	if got := c.m.Runs(); !slices.Equal(got, want) {
		c.t.Fatalf("%s: %s: Runs %v, want %v", promise, c.name, got, want)
	}
	if c.m.Count() != len(want) || c.m.Capacity() != c.p.capacity || c.m.Most() != c.p.most {
		c.t.Fatalf("%s: %s: Count %d, Capacity %d, Most %d", promise, c.name, c.m.Count(), c.m.Capacity(), c.m.Most())
	}
	for lba := -1; lba <= c.p.capacity; lba++ {
		phys, ok := c.p.Get(lba)
		if got, there := c.m.Get(lba); got != phys || there != ok {
			c.t.Fatalf("%s: %s: Get(%d): %d, %v; want %d, %v", promise, c.name, lba, got, there, phys, ok)
		}
	}
}

// runList makes runs of numbers, three a run.
func runList(l ...int) []api.Run {
	var r []api.Run
	for i := 0; i < len(l); i += 3 {
		r = append(r, api.Run{Lba: l[i], Len: l[i+1], Phys: l[i+2]})
	}
	return r
}

// pieceList makes pieces of numbers, three a piece.
func pieceList(l ...int) []api.Piece { return piecesOf(runList(l...)) }

// opList makes changes of numbers, three a change.
func opList(l ...int) []api.Op {
	var o []api.Op
	for _, r := range runList(l...) {
		o = append(o, api.Op(r))
	}
	return o
}

// piecesOf tells runs as pieces.
func piecesOf(l []api.Run) []api.Piece {
	var p []api.Piece
	for _, r := range l {
		p = append(p, api.Piece(r))
	}
	return p
}

// dice is a row of numbers that is the same at every run.
type dice uint64

func (d *dice) roll(n int) int {
	*d = *d*6364136223846793005 + 1442695040888963407
	return int(uint64(*d) >> 33 % uint64(n))
}

// spoil sets all of a list, spare room too, to something else.
func spoil[T any](l []T, wrong T) {
	l = l[:cap(l)]
	for i := range l {
		l[i] = wrong
	}
}

// The kinds themselves are as both packages make them.
var (
	_ Map = (*runs.Map)(nil)
	_ Map = (*flat.Map)(nil)
	_ Map = (*plain)(nil)
)
