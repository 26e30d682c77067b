package runs

import (
	"slices"
	"testing"

	"ferrule/api"
	"ferrule/arena"
	"ferrule/tree"
)

// plain is the chapter's words: one entry a sector, -1 where there is no page.
type plain struct {
	most    int
	entries []int
}

func plainOf(capacity, most int) *plain {
	p := &plain{most: most, entries: make([]int, capacity)}
	for i := range p.entries {
		p.entries[i] = -1
	}
	return p
}

// right is DOC.md's word; the first two are asked ahead, so that the sum is one without bounds.
func (p *plain) right(lba, n int) bool {
	c := len(p.entries)
	return n >= 1 && lba >= 0 && n <= c && lba <= c && lba+n <= c
}

// runsOf tells the maximal runs of entries.
func runsOf(entries []int) []api.Run {
	var l []api.Run
	for i, phys := range entries {
		switch {
		case phys < 0:
		case i > 0 && entries[i-1] >= 0 && entries[i-1]+1 == phys:
			l[len(l)-1].Len++
		default:
			l = append(l, api.Run{Lba: i, Len: 1, Phys: phys})
		}
	}
	return l
}

// take makes these the entries, unless they have too many runs.
func (p *plain) take(entries []int) api.Errno {
	if len(runsOf(entries)) > p.most {
		return api.EFULL
	}
	p.entries = entries
	return api.OK
}

func (p *plain) set(lba, n, phys int) api.Errno {
	if !p.right(lba, n) || phys < 0 || phys > 1048576 {
		return api.EARG
	}
	entries := slices.Clone(p.entries)
	for i := range n {
		entries[lba+i] = phys + i
	}
	return p.take(entries)
}

func (p *plain) clear(lba, n int) api.Errno {
	if !p.right(lba, n) {
		return api.EARG
	}
	entries := slices.Clone(p.entries)
	for i := range n {
		entries[lba+i] = -1
	}
	return p.take(entries)
}

func (p *plain) get(lba int) (int, bool) {
	if lba < 0 || lba >= len(p.entries) || p.entries[lba] < 0 {
		return 0, false
	}
	return p.entries[lba], true
}

// pieces goes through the range sector by sector: one goes on with a piece, if
// both are in one hole, or both in one run.
func (p *plain) pieces(lba, n int) ([]api.Piece, api.Errno) {
	if !p.right(lba, n) {
		return nil, api.EARG
	}
	var l []api.Piece
	for i := lba; i < lba+n; i++ {
		phys := p.entries[i]
		if i > lba {
			before := p.entries[i-1]
			if before < 0 && phys < 0 || before >= 0 && before+1 == phys {
				l[len(l)-1].Len++
				continue
			}
		}
		l = append(l, api.Piece{Lba: i, Len: 1, Phys: phys})
	}
	return l, api.OK
}

// trial is a map, and the plain form that is told the same.
type trial struct {
	t     *testing.T
	m     *Map
	p     *plain
	tree  *tree.Tree   // as told at first
	nodes *arena.Arena // likewise
}

func trialOf(t *testing.T, capacity, most int) *trial {
	t.Helper()
	m, e := New(capacity, most)
	if e != api.OK || m == nil {
		t.Fatalf("P8.1: New(%d, %d): %v, %d", capacity, most, m, e)
	}
	c := &trial{t: t, m: m, p: plainOf(capacity, most), tree: m.Tree(), nodes: m.Arena()}
	if c.tree == nil || c.nodes == nil {
		t.Fatalf("P8.4: New(%d, %d): Tree %v, Arena %v", capacity, most, c.tree, c.nodes)
	}
	return c
}

// holding is a trial of a map that maps what the entries say, with room for
// more runs than these as told (at least one in all).
func holding(t *testing.T, entries []int, more int) *trial {
	t.Helper()
	l := runsOf(entries)
	c := trialOf(t, len(entries), max(1, len(l)+more))
	for _, r := range l {
		if e := c.m.Set(r.Lba, r.Len, r.Phys); e != api.OK {
			t.Fatalf("P8.2: Set of the run %v of %v: %d", r, l, e)
		}
	}
	c.p.entries = slices.Clone(entries)
	return c
}

// state is all that the map's tree and arena tell.
type state struct {
	root  uint32
	views []tree.View
	free  []uint32
}

func (c *trial) state() state {
	return state{c.m.Tree().Root(), c.m.Tree().Views(), c.m.Arena().Free()}
}

// wantState asks whether the tree and the arena are as they were, node by node.
func (c *trial) wantState(was state, promise, behind string) {
	c.t.Helper()
	is := c.state()
	if is.root != was.root || !slices.Equal(is.views, was.views) || !slices.Equal(is.free, was.free) {
		c.t.Fatalf("%s: behind %s: %v, was %v", promise, behind, is, was)
	}
}

// done holds a call's answer against the plain form's; an error has changed nothing.
func (c *trial) done(name string, was state, got, want api.Errno) {
	c.t.Helper()
	if got != want {
		c.t.Fatalf("P8.2: %s: %d, want %d; %v of at most %d runs", name, got, want, was.views, c.p.most)
	}
	if want != api.OK {
		c.wantState(was, "R3", name)
	}
	c.wantSound(name)
}

func (c *trial) set(lba, n, phys int) api.Errno {
	c.t.Helper()
	was, want := c.state(), c.p.set(lba, n, phys)
	c.done("Set", was, c.m.Set(lba, n, phys), want)
	return want
}

func (c *trial) clear(lba, n int) api.Errno {
	c.t.Helper()
	was, want := c.state(), c.p.clear(lba, n)
	c.done("Clear", was, c.m.Clear(lba, n), want)
	return want
}

// wantSound asks for all that holds between calls.
func (c *trial) wantSound(behind string) {
	c.t.Helper()
	want := runsOf(c.p.entries)
	if got := c.m.Runs(); !slices.Equal(got, want) {
		c.t.Fatalf("P8.3: behind %s Runs: %v, want %v", behind, got, want)
	}
	if got := c.m.Count(); got != len(want) {
		c.t.Fatalf("P8.3: behind %s Count: %d, want %d", behind, got, len(want))
	}
	if c.m.Capacity() != len(c.p.entries) || c.m.Most() != c.p.most {
		c.t.Fatalf("P8.3: behind %s Capacity %d, Most %d", behind, c.m.Capacity(), c.m.Most())
	}
	if c.m.Tree() != c.tree || c.m.Arena() != c.nodes {
		c.t.Fatalf("P8.4: behind %s the tree or the arena is another one", behind)
	}
	if got := c.tree.All(); !slices.Equal(got, want) {
		c.t.Fatalf("P8.4: behind %s the tree's All: %v, want %v", behind, got, want)
	}
	c.wantTree(behind)
	c.wantNodes(behind)
}

// wantTree asks the tree's views for its order, its rule and its heights.
func (c *trial) wantTree(behind string) {
	c.t.Helper()
	views := c.tree.Views()
	at := make([]tree.View, c.p.most+1)
	for i, v := range views {
		if i > 0 && views[i-1].Run.Lba >= v.Run.Lba {
			c.t.Fatalf("P8.5: behind %s out of order: %v", behind, views)
		}
		if v.Id < 1 || uint64(v.Id) >= uint64(len(at)) || at[v.Id].Id != 0 {
			c.t.Fatalf("P8.5: behind %s the node %d: %v", behind, v.Id, views)
		}
		at[v.Id] = v
	}
	if order := c.hanging(at, c.tree.Root(), nil); !slices.Equal(order, views) {
		c.t.Fatalf("P8.5: behind %s on the root hang %v, Views are %v", behind, order, views)
	}
}

// hanging is what hangs on a node, in order; the rule and the heights are asked on the way.
func (c *trial) hanging(at []tree.View, id uint32, done []tree.View) []tree.View {
	c.t.Helper()
	if id == 0 {
		return done
	}
	if uint64(id) >= uint64(len(at)) || at[id].Id != id {
		c.t.Fatalf("P8.5: the node %d hangs on the root, and is not told", id)
	}
	v := at[id]
	left, right := c.heightOf(v.Left), c.heightOf(v.Right)
	if v.Height != 1+max(left, right) || left > right+1 || right > left+1 {
		c.t.Fatalf("P8.5: %v has branches of the heights %d and %d", v, left, right)
	}
	at[id] = tree.View{} // so that it is not told again: a ring of links ends here
	done = c.hanging(at, v.Left, done)
	done = append(done, v)
	return c.hanging(at, v.Right, done)
}

// heightOf tells the height that a branch's root has, 0 of no branch.
func (c *trial) heightOf(id uint32) int {
	n, _ := c.nodes.Get(id)
	return n.Height
}

// wantNodes asks whether the arena's live nodes are just the tree's, and the
// free list has all others.
func (c *trial) wantNodes(behind string) {
	c.t.Helper()
	views, free := c.tree.Views(), c.nodes.Free()
	if c.nodes.Size() != c.p.most {
		c.t.Fatalf("P8.4: behind %s the arena has %d nodes, want %d", behind, c.nodes.Size(), c.p.most)
	}
	if c.nodes.Live() != len(views) || len(views)+len(free) != c.p.most {
		c.t.Fatalf("P8.5: behind %s %d nodes are live, %d free, %d in the tree", behind, c.nodes.Live(), len(free), len(views))
	}
	for _, v := range views {
		n, e := c.nodes.Get(v.Id)
		if e != api.OK || v != (tree.View{Id: v.Id, Left: n.Left, Right: n.Right, Height: n.Height, Run: n.Run}) {
			c.t.Fatalf("P8.5: behind %s the tree has %v, the arena %v, %d", behind, v, n, e)
		}
	}
	for _, id := range free {
		if _, e := c.nodes.Get(id); e != api.EARG {
			c.t.Fatalf("P8.5: behind %s the node %d is free and live", behind, id)
		}
	}
}

// wantGet holds one sector's page against the plain form's.
func (c *trial) wantGet(lba int) {
	c.t.Helper()
	phys, ok := c.p.get(lba)
	if got, there := c.m.Get(lba); got != phys || there != ok {
		c.t.Fatalf("P8.3: Get(%d): %d, %v; want %d, %v; %v", lba, got, there, phys, ok, c.m.Runs())
	}
}

// wantRange holds one range's pieces against the plain form's.
func (c *trial) wantRange(lba, n int) {
	c.t.Helper()
	want, e := c.p.pieces(lba, n)
	got, f := c.m.Range(lba, n)
	if !slices.Equal(got, want) || f != e {
		c.t.Fatalf("P8.3: Range(%d, %d): %v, %d; want %v, %d; %v", lba, n, got, f, want, e, c.m.Runs())
	}
}

// wantGets asks for each sector, and for those just beyond both ends.
func (c *trial) wantGets() {
	c.t.Helper()
	for lba := -2; lba < len(c.p.entries)+2; lba++ {
		c.wantGet(lba)
	}
}

// wantRanges asks for each range, those that are just not right among them.
func (c *trial) wantRanges() {
	c.t.Helper()
	for lba := -1; lba <= len(c.p.entries)+1; lba++ {
		for n := -1; n <= len(c.p.entries)+1; n++ {
			c.wantRange(lba, n)
		}
	}
}

// wantSetBack sets what Range tells, piece by piece: nothing changes, not even
// a node's place. A piece from behind the page 2^20 on is refused.
func (c *trial) wantSetBack(lba, n int) {
	c.t.Helper()
	was := c.state()
	l, _ := c.m.Range(lba, n)
	for _, p := range l {
		var got, want api.Errno
		switch {
		case p.Phys < 0:
			got = c.m.Clear(p.Lba, p.Len)
		case p.Phys > 1<<20:
			got, want = c.m.Set(p.Lba, p.Len, p.Phys), api.EARG
		default:
			got = c.m.Set(p.Lba, p.Len, p.Phys)
		}
		if got != want {
			c.t.Fatalf("P8.5: the piece %v set back: %d, want %d", p, got, want)
		}
		c.wantState(was, "P8.5", "what Range told, set back")
	}
}
