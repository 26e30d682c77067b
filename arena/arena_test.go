package arena

import (
	"math"
	"slices"
	"testing"

	"ferrule/api"
)

// The signatures are fixed by chapter 6.
var (
	_ func(int) (*Arena, api.Errno)          = New
	_ func(*Arena) (uint32, api.Errno)       = (*Arena).Take
	_ func(*Arena, uint32) api.Errno         = (*Arena).Give
	_ func(*Arena, uint32) (Node, api.Errno) = (*Arena).Get
	_ func(*Arena, uint32, Node) api.Errno   = (*Arena).Put
	_ func(*Arena) int                       = (*Arena).Live
	_ func(*Arena) int                       = (*Arena).Size
	_ func(*Arena) []uint32                  = (*Arena).Free
	_                                        = Node{Left: uint32(0), Right: uint32(0), Height: int(0), Run: api.Run{}}
)

// arenaOf is a new one.
func arenaOf(t *testing.T, size int) *Arena {
	t.Helper()
	a, e := New(size)
	if e != api.OK || a == nil {
		t.Fatalf("P6.1: New(%d): %d", size, e)
	}
	return a
}

// upTo is the numbers from 1 to n.
func upTo(n int) []uint32 {
	ids := []uint32{}
	for id := 1; id <= n; id++ {
		ids = append(ids, uint32(id))
	}
	return ids
}

// wantTake holds what Take answers against what it should be.
func wantTake(t *testing.T, a *Arena, id uint32, e api.Errno) {
	t.Helper()
	if got, err := a.Take(); got != id || err != e {
		t.Fatalf("P6.2: Take: %d, %d; want %d, %d", got, err, id, e)
	}
}

// wantGive holds what Give answers against what it should be.
func wantGive(t *testing.T, a *Arena, id uint32, e api.Errno) {
	t.Helper()
	if err := a.Give(id); err != e {
		t.Fatalf("P6.2: Give(%d): %d, want %d", id, err, e)
	}
}

// wantPut holds what Put answers against what it should be.
func wantPut(t *testing.T, a *Arena, id uint32, n Node, e api.Errno) {
	t.Helper()
	if err := a.Put(id, n); err != e {
		t.Fatalf("P6.2: Put(%d, %v): %d, want %d", id, n, err, e)
	}
}

// wantGet holds what Get answers against what it should be.
func wantGet(t *testing.T, a *Arena, id uint32, n Node, e api.Errno) {
	t.Helper()
	if got, err := a.Get(id); got != n || err != e {
		t.Fatalf("P6.2: Get(%d): %v, %d; want %v, %d", id, got, err, n, e)
	}
}

// wantFree holds the free list against what it should be.
func wantFree(t *testing.T, a *Arena, ids ...uint32) {
	t.Helper()
	if got := a.Free(); !slices.Equal(got, ids) {
		t.Fatalf("P6.3: Free: %v, want %v", got, ids)
	}
}

// plain is the chapter's words: the free list as a list, the live nodes as a map.
type plain struct {
	size int
	free []uint32
	live map[uint32]Node
}

func plainOf(size int) *plain {
	return &plain{size: size, free: upTo(size), live: map[uint32]Node{}}
}

func (p *plain) take() (uint32, api.Errno) {
	if len(p.free) == 0 {
		return 0, api.EFULL
	}
	id := p.free[0]
	p.free = p.free[1:]
	p.live[id] = Node{}
	return id, api.OK
}

func (p *plain) give(id uint32) api.Errno {
	if _, ok := p.live[id]; !ok {
		return api.EARG
	}
	delete(p.live, id)
	p.free = append([]uint32{id}, p.free...)
	return api.OK
}

func (p *plain) get(id uint32) (Node, api.Errno) {
	n, ok := p.live[id]
	if !ok {
		return Node{}, api.EARG
	}
	return n, api.OK
}

func (p *plain) put(id uint32, n Node) api.Errno {
	if _, ok := p.live[id]; !ok {
		return api.EARG
	}
	p.live[id] = n
	return api.OK
}

// wantAlike holds all that an arena tells against the plain form: an error that
// changed something would be seen here, too.
func wantAlike(t *testing.T, a *Arena, p *plain) {
	t.Helper()
	if got := a.Size(); got != p.size {
		t.Fatalf("P6.3: Size: %d, want %d", got, p.size)
	}
	if got := a.Live(); got != len(p.live) {
		t.Fatalf("P6.3: Live: %d, want %d", got, len(p.live))
	}
	wantFree(t, a, p.free...)
	for id := range uint32(p.size) + 3 {
		n, e := p.get(id)
		wantGet(t, a, id, n, e)
	}
	wantWhole(t, a)
}

// wantWhole asks an arena alone whether live nodes and the free list are all
// nodes, none in both.
func wantWhole(t *testing.T, a *Arena) {
	t.Helper()
	size, free := a.Size(), a.Free()
	seen := make([]int, size+1)
	for _, id := range free {
		if id < 1 || uint64(id) > uint64(size) {
			t.Fatalf("P6.4: the free list has %d, which is no node of %d", id, size)
		}
		seen[id]++
	}
	for id := 1; id <= size; id++ {
		if _, e := a.Get(uint32(id)); e == api.OK {
			seen[id]++
		}
		if seen[id] != 1 {
			t.Fatalf("P6.4: the node %d is %d times live or in the free list %v", id, seen[id], free)
		}
	}
	if len(free)+a.Live() != size {
		t.Fatalf("P6.4: %d free, %d live, of %d", len(free), a.Live(), size)
	}
}

func TestNew(t *testing.T) {
	for _, size := range []int{0, -1, 513, 514, 1024, -512, 1 << 16, 1<<32 + 1, 1<<32 + 512, -1 << 32, math.MaxInt32, math.MinInt32, math.MaxInt, math.MinInt, math.MinInt + 1} {
		if a, e := New(size); a != nil || e != api.EARG {
			t.Errorf("P6.1: New(%d): %v, %d; want nil, EARG", size, a != nil, e)
		}
	}
	for size := 1; size <= api.MaxRuns; size++ {
		wantAlike(t, arenaOf(t, size), plainOf(size))
	}
}

func TestTakeUntilFull(t *testing.T) {
	for _, size := range []int{1, 2, 3, 511, api.MaxRuns} {
		a, p := arenaOf(t, size), plainOf(size)
		for range size {
			id, e := p.take()
			wantTake(t, a, id, e)
			wantAlike(t, a, p)
		}
		for range 3 {
			wantTake(t, a, 0, api.EFULL)
			wantAlike(t, a, p)
		}
		if got := a.Free(); len(got) != 0 {
			t.Errorf("P6.3: Free of a full arena: %v", got)
		}
		// All go back as they came: the last that was given is the first again.
		for id := 1; id <= size; id++ {
			wantGive(t, a, uint32(id), p.give(uint32(id)))
			wantAlike(t, a, p)
		}
		for id := size; id >= 1; id-- {
			wantTake(t, a, uint32(id), api.OK)
		}
		wantTake(t, a, 0, api.EFULL)
	}
}

// odd are nodes at the ends of their fields' types, each field apart and all of them.
func odd() []Node {
	most, least := math.MaxInt, math.MinInt
	return []Node{
		{},
		{Left: 1},
		{Right: 1},
		{Left: math.MaxUint32},
		{Right: math.MaxUint32},
		{Left: 1 << 31, Right: 1 << 16},
		{Height: most},
		{Height: least},
		{Height: -1},
		{Height: 1 << 40},
		{Run: api.Run{Lba: most}},
		{Run: api.Run{Lba: least}},
		{Run: api.Run{Len: most}},
		{Run: api.Run{Len: least}},
		{Run: api.Run{Phys: most}},
		{Run: api.Run{Phys: least}},
		{Run: api.Run{Lba: 1 << 40, Len: -1 << 40, Phys: -1}},
		{math.MaxUint32, math.MaxUint32, most, api.Run{Lba: most, Len: most, Phys: most}},
		{math.MaxUint32, math.MaxUint32, least, api.Run{Lba: least, Len: least, Phys: least}},
		{2, 9, -4, api.Run{Lba: 1, Len: 2, Phys: 3}},
	}
}

func TestTakenAgain(t *testing.T) {
	for _, n := range odd() {
		a := arenaOf(t, 3)
		wantTake(t, a, 1, api.OK)
		wantGet(t, a, 1, Node{}, api.OK)
		wantTake(t, a, 2, api.OK)
		wantPut(t, a, 1, n, api.OK)
		wantPut(t, a, 2, n, api.OK)
		wantGive(t, a, 1, api.OK)
		wantGive(t, a, 2, api.OK)
		wantGet(t, a, 1, Node{}, api.EARG)
		wantFree(t, a, 2, 1, 3)
		wantTake(t, a, 2, api.OK)
		wantGet(t, a, 2, Node{}, api.OK)
		wantTake(t, a, 1, api.OK)
		wantGet(t, a, 1, Node{}, api.OK)
		wantTake(t, a, 3, api.OK)
		wantGet(t, a, 3, Node{}, api.OK)
	}
}

func TestPutKeepsFieldsAndOthers(t *testing.T) {
	nodes := odd()
	a, p := arenaOf(t, 6), plainOf(6)
	for range 5 {
		p.take()
		a.Take()
	}
	p.give(3)
	a.Give(3)
	for i, n := range nodes {
		for _, id := range []uint32{1, 2, 4, 5} {
			m := nodes[(i+int(id))%len(nodes)]
			wantPut(t, a, id, m, p.put(id, m))
			wantAlike(t, a, p)
			wantPut(t, a, id, n, p.put(id, n))
			wantAlike(t, a, p)
		}
	}
}

// What Get answered is the caller's: no later call changes it, nor does its change anything.
func TestGetIsApart(t *testing.T) {
	a := arenaOf(t, 2)
	a.Take()
	n := Node{Left: 7, Right: 8, Height: 9, Run: api.Run{Lba: 10, Len: 11, Phys: 12}}
	wantPut(t, a, 1, n, api.OK)
	got, _ := a.Get(1)
	wantPut(t, a, 1, Node{Left: 1}, api.OK)
	if got != n {
		t.Errorf("P6.2: what Get answered became %v", got)
	}
	got.Right = 5
	wantGet(t, a, 1, Node{Left: 1}, api.OK)
}

func TestNoLiveNode(t *testing.T) {
	n := Node{Left: 1, Right: 2, Height: 3, Run: api.Run{Lba: 4, Len: 5, Phys: 6}}
	for _, size := range []int{1, 2, 3, 256, api.MaxRuns} {
		a, p := arenaOf(t, size), plainOf(size)
		past := uint32(size) + 1
		wrong := []uint32{0, past, past + 1, 513, 1024, 1 << 16, 1<<16 + 1, 1 << 31, 1<<31 + 1, math.MaxInt32, math.MaxUint32, math.MaxUint32 - 1}
		refuse := func(id uint32) {
			t.Helper()
			wantGive(t, a, id, api.EARG)
			wantGet(t, a, id, Node{}, api.EARG)
			wantPut(t, a, id, n, api.EARG)
			wantAlike(t, a, p)
		}
		refuseAll := func() {
			t.Helper()
			for _, id := range wrong {
				refuse(id)
			}
			for _, id := range p.free {
				refuse(id)
			}
		}
		refuseAll()
		for range size {
			p.take()
			a.Take()
		}
		refuseAll()
		last := uint32(size)
		wantPut(t, a, last, n, p.put(last, n))
		wantGive(t, a, last, p.give(last))
		refuse(last) // given back twice
		refuse(last)
		refuseAll()
		// A refused Put left nothing behind for the one that takes the node.
		wantTake(t, a, last, api.OK)
		wantGet(t, a, last, Node{}, api.OK)
	}
}

// What Free answers is the caller's own, spare room too.
func TestFreeIsApart(t *testing.T) {
	a, p := arenaOf(t, 9), plainOf(9)
	for range 4 {
		p.take()
		a.Take()
	}
	p.give(2)
	a.Give(2)
	one, two := a.Free(), a.Free()
	for i := range one[:cap(one)] {
		one[:cap(one)][i] = 77
	}
	if !slices.Equal(two, p.free) {
		t.Errorf("P6.3: two answers of Free share memory: %v", two)
	}
	wantAlike(t, a, p)
	was := slices.Clone(two)
	for range 3 {
		a.Take()
	}
	a.Give(1)
	a.Give(4)
	a.Free()
	if !slices.Equal(two, was) {
		t.Errorf("P6.3: a later call changed what Free answered: %v, was %v", two, was)
	}
	_ = append(a.Free(), 99)
	wantFree(t, a, 4, 1, 7, 8, 9)
}

// Two arenas know nothing of each other.
func TestTwoArenas(t *testing.T) {
	a, b := arenaOf(t, 3), arenaOf(t, 3)
	pa, pb := plainOf(3), plainOf(3)
	pa.take()
	a.Take()
	wantPut(t, a, 1, Node{Height: 1}, pa.put(1, Node{Height: 1}))
	wantAlike(t, b, pb)
	for range 2 {
		pb.take()
		b.Take()
	}
	wantPut(t, b, 1, Node{Height: 2}, pb.put(1, Node{Height: 2}))
	wantGive(t, b, 2, pb.give(2))
	wantAlike(t, a, pa)
	wantAlike(t, b, pb)
}

// step does one call on an arena and on the plain form, and holds the answers
// against each other.
func step(t *testing.T, a *Arena, p *plain, call int, id uint32, n Node) {
	t.Helper()
	switch call {
	case 0:
		id, e := p.take()
		wantTake(t, a, id, e)
	case 1:
		wantGive(t, a, id, p.give(id))
	case 2:
		n, e := p.get(id)
		wantGet(t, a, id, n, e)
	case 3:
		wantPut(t, a, id, n, p.put(id, n))
	}
}

// Each row of calls up to a length, at small sizes.
func TestAllShortRows(t *testing.T) {
	for _, c := range []struct{ size, length int }{{1, 5}, {2, 5}, {3, 4}} {
		ids := uint32(c.size) + 2
		kinds := 1 + 2*int(ids) // Take; Give and Put of each id: wantAlike does each Get
		rows := 1
		for range c.length {
			rows *= kinds
		}
		for row := range rows {
			a, p := arenaOf(t, c.size), plainOf(c.size)
			for i, rest := 0, row; i < c.length; i, rest = i+1, rest/kinds {
				kind := rest % kinds
				switch {
				case kind == 0:
					step(t, a, p, 0, 0, Node{})
				case kind <= int(ids):
					step(t, a, p, 1, uint32(kind-1), Node{})
				default:
					step(t, a, p, 3, uint32(kind-1)-ids, Node{Left: uint32(i) + 1, Run: api.Run{Lba: row}})
				}
			}
			wantAlike(t, a, p)
		}
	}
}

// dice is a row of numbers that is the same at every run.
type dice uint64

func (d *dice) roll(n int) int {
	*d = *d*6364136223846793005 + 1442695040888963407
	return int(uint64(*d) >> 33 % uint64(n))
}

func TestLongRows(t *testing.T) {
	nodes := odd()
	for _, c := range []struct{ size, calls int }{{1, 2000}, {2, 4000}, {3, 4000}, {7, 6000}, {40, 6000}, {511, 1500}, {api.MaxRuns, 2000}} {
		for seed := range 3 {
			a, p := arenaOf(t, c.size), plainOf(c.size)
			d := dice(seed*1000 + c.size)
			wants := 50
			for i := range c.calls {
				if i%500 == 0 {
					wants = 15 + d.roll(71) // so that it fills up, and empties, in turns
				}
				id := uint32(d.roll(c.size + 3))
				n := nodes[d.roll(len(nodes))]
				n.Run.Lba += i
				switch k := d.roll(100); {
				case k < 10:
					step(t, a, p, 2, id, n)
				case k < 30:
					step(t, a, p, 3, id, n)
				case d.roll(100) < wants:
					step(t, a, p, 0, id, n)
				default:
					step(t, a, p, 1, id, n)
				}
				wantAlike(t, a, p)
			}
		}
	}
}

// The same calls have the same answers (R5).
func TestSameCallsSameAnswers(t *testing.T) {
	row := func() []int {
		out := []int{}
		a := arenaOf(t, 20)
		d := dice(5)
		for range 500 {
			if d.roll(2) == 0 {
				id, e := a.Take()
				out = append(out, int(id), int(e))
			} else {
				out = append(out, int(a.Give(uint32(d.roll(22)))))
			}
			for _, id := range a.Free() {
				out = append(out, int(id))
			}
		}
		return out
	}
	if !slices.Equal(row(), row()) {
		t.Errorf("R5: the same calls answered otherwise")
	}
}

func TestExamples(t *testing.T) {
	a := arenaOf(t, 3)
	wantTake(t, a, 1, api.OK)
	wantTake(t, a, 2, api.OK)
	wantGive(t, a, 1, api.OK)
	wantTake(t, a, 1, api.OK)
	wantTake(t, a, 3, api.OK)
	wantTake(t, a, 0, api.EFULL)
	wantGive(t, a, 0, api.EARG)
	wantGive(t, a, 4, api.EARG)
	wantGet(t, a, 2, Node{}, api.OK)
	wantGive(t, a, 2, api.OK)
	wantGet(t, a, 2, Node{}, api.EARG)
	wantFree(t, a, 2)
	for _, size := range []int{0, 513} {
		if a, e := New(size); a != nil || e != api.EARG {
			t.Errorf("P6.1: New(%d): %d", size, e)
		}
	}
}
