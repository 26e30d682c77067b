package tree

import (
	"math"
	"slices"
	"strconv"
	"testing"

	"ferrule/api"
	"ferrule/arena"
)

// The signatures are fixed by chapter 7.
var (
	_ func(*arena.Arena) *Tree         = New
	_ func(*Tree, api.Run) api.Errno   = (*Tree).Insert
	_ func(*Tree, int) api.Errno       = (*Tree).Delete
	_ func(*Tree, api.Run) api.Errno   = (*Tree).Change
	_ func(*Tree, int) (api.Run, bool) = (*Tree).Find
	_ func(*Tree, int) (api.Run, bool) = (*Tree).Floor
	_ func(*Tree, int) (api.Run, bool) = (*Tree).Ceil
	_ func(*Tree) []api.Run            = (*Tree).All
	_ func(*Tree) int                  = (*Tree).Len
	_ func(*Tree) uint32               = (*Tree).Root
	_ func(*Tree) []View               = (*Tree).Views
	_                                  = View{Id: uint32(0), Left: uint32(0), Right: uint32(0), Height: int(0), Run: api.Run{}}
)

// plain is the chapter's words: a sorted list.
type plain struct {
	size int
	runs []api.Run
}

// place tells where a run with that Lba stands, or would stand.
func (p *plain) place(lba int) (int, bool) {
	return slices.BinarySearchFunc(p.runs, lba, func(r api.Run, lba int) int {
		switch {
		case r.Lba < lba:
			return -1
		case r.Lba > lba:
			return 1
		}
		return 0
	})
}

func (p *plain) insert(r api.Run) api.Errno {
	i, ok := p.place(r.Lba)
	if ok {
		return api.EARG
	}
	if len(p.runs) == p.size {
		return api.EFULL
	}
	p.runs = slices.Insert(p.runs, i, r)
	return api.OK
}

func (p *plain) remove(lba int) api.Errno {
	i, ok := p.place(lba)
	if !ok {
		return api.ENONE
	}
	p.runs = slices.Delete(p.runs, i, i+1)
	return api.OK
}

func (p *plain) change(r api.Run) api.Errno {
	i, ok := p.place(r.Lba)
	if !ok {
		return api.ENONE
	}
	p.runs[i] = r
	return api.OK
}

// at tells the run that stands there, if one does.
func (p *plain) at(i int) (api.Run, bool) {
	if i < 0 || i >= len(p.runs) {
		return api.Run{}, false
	}
	return p.runs[i], true
}

func (p *plain) find(lba int) (api.Run, bool) {
	i, ok := p.place(lba)
	if !ok {
		return api.Run{}, false
	}
	return p.at(i)
}

func (p *plain) floor(lba int) (api.Run, bool) {
	i, ok := p.place(lba)
	if !ok {
		i--
	}
	return p.at(i)
}

func (p *plain) ceil(lba int) (api.Run, bool) {
	i, _ := p.place(lba)
	return p.at(i)
}

// trial is a tree, its arena, and the plain form that is told the same.
type trial struct {
	t *testing.T
	x *Tree
	a *arena.Arena
	p *plain
}

// trialOf is a new one.
func trialOf(t *testing.T, size int) *trial {
	t.Helper()
	a, e := arena.New(size)
	if e != api.OK {
		t.Fatalf("arena.New(%d): %d", size, e)
	}
	x := New(a)
	if x == nil {
		t.Fatal("P7.1: New: nil")
	}
	return &trial{t: t, x: x, a: a, p: &plain{size: size}}
}

// insert does it on both, and asks whether the tree took one node, the first
// that was free.
func (c *trial) insert(r api.Run) api.Errno {
	c.t.Helper()
	free := c.a.Free()
	want := c.p.insert(r)
	if got := c.x.Insert(r); got != want {
		c.t.Fatalf("P7.1: Insert(%v): %d, want %d", r, got, want)
	}
	if want == api.OK {
		c.wantNode(r.Lba, free[0])
		free = free[1:]
	}
	if got := c.a.Free(); !slices.Equal(got, free) {
		c.t.Fatalf("P7.1: behind Insert(%v) the free list is %v, want %v", r, got, free)
	}
	c.wantSound()
	return want
}

// remove does it on both, and asks whether the node that was given back is the
// one of the run that is gone.
func (c *trial) remove(lba int) api.Errno {
	c.t.Helper()
	free := c.a.Free()
	want := c.p.remove(lba)
	if want == api.OK {
		free = append([]uint32{c.nodeOf(lba)}, free...)
	}
	if got := c.x.Delete(lba); got != want {
		c.t.Fatalf("P7.1: Delete(%d): %d, want %d", lba, got, want)
	}
	if got := c.a.Free(); !slices.Equal(got, free) {
		c.t.Fatalf("P7.1: behind Delete(%d) the free list is %v, want %v", lba, got, free)
	}
	c.wantSound()
	return want
}

// change does it on both, and asks whether the links are as they were.
func (c *trial) change(r api.Run) api.Errno {
	c.t.Helper()
	was, root := c.x.Views(), c.x.Root()
	want := c.p.change(r)
	if got := c.x.Change(r); got != want {
		c.t.Fatalf("P7.1: Change(%v): %d, want %d", r, got, want)
	}
	for i := range was {
		if was[i].Run.Lba == r.Lba {
			was[i].Run = r
		}
	}
	if got := c.x.Views(); !slices.Equal(got, was) || c.x.Root() != root {
		c.t.Fatalf("P7.1: behind Change(%v): %v, want %v", r, got, was)
	}
	c.wantSound()
	return want
}

// nodeOf tells the node of the run with that Lba.
func (c *trial) nodeOf(lba int) uint32 {
	c.t.Helper()
	for _, v := range c.x.Views() {
		if v.Run.Lba == lba {
			return v.Id
		}
	}
	c.t.Fatalf("P7.2: Views has no run with Lba %d", lba)
	return 0
}

// wantNode holds the node of a run against what it should be.
func (c *trial) wantNode(lba int, id uint32) {
	c.t.Helper()
	if got := c.nodeOf(lba); got != id {
		c.t.Fatalf("P7.1: the run with Lba %d has the node %d, want %d", lba, got, id)
	}
}

// refused does a call that has to be refused, and asks whether all is as it was.
func (c *trial) refused(what string, call func() api.Errno, want api.Errno) {
	c.t.Helper()
	views, root, free := c.x.Views(), c.x.Root(), c.a.Free()
	if got := call(); got != want {
		c.t.Fatalf("P7.1: %s: %d, want %d", what, got, want)
	}
	if !slices.Equal(c.x.Views(), views) || c.x.Root() != root || !slices.Equal(c.a.Free(), free) {
		c.t.Fatalf("R3: %s changed %v to %v", what, views, c.x.Views())
	}
	c.wantSound()
}

func (c *trial) refuseInsert(r api.Run, want api.Errno) {
	c.t.Helper()
	c.refused("Insert of "+strconv.Itoa(r.Lba), func() api.Errno { return c.insert(r) }, want)
}

func (c *trial) refuseDelete(lba int) {
	c.t.Helper()
	c.refused("Delete of "+strconv.Itoa(lba), func() api.Errno { return c.remove(lba) }, api.ENONE)
}

func (c *trial) refuseChange(r api.Run) {
	c.t.Helper()
	c.refused("Change of "+strconv.Itoa(r.Lba), func() api.Errno { return c.change(r) }, api.ENONE)
}

// wantSound asks the tree and its arena alone whether they are as P7.3 says,
// and holds the runs against the plain form's.
func (c *trial) wantSound() {
	c.t.Helper()
	views := c.x.Views()
	at := make([]View, c.a.Size()+1) // by the node's number; the node 0 is none
	for i, v := range views {
		if i > 0 && views[i-1].Run.Lba >= v.Run.Lba {
			c.t.Fatalf("P7.3: out of order: %v", views)
		}
		c.wantLive(v)
		if at[v.Id].Id != 0 {
			c.t.Fatalf("P7.3: the node %d is told twice: %v", v.Id, views)
		}
		at[v.Id] = v
	}
	order := c.hanging(at, c.x.Root(), make([]View, 0, len(views)))
	if !slices.Equal(order, views) {
		c.t.Fatalf("P7.3: on the root hang %v, Views are %v", order, views)
	}
	if got := c.a.Live(); got != len(views) {
		c.t.Fatalf("P7.3: %d nodes are live, %d are in the tree", got, len(views))
	}
	if h := c.heightOf(c.x.Root()); float64(h) > 1.45*math.Log2(float64(len(views)+2)) {
		c.t.Fatalf("P7.3: a tree of %d runs is %d high", len(views), h)
	}
	c.wantRuns(views)
}

// wantLive asks whether a node is the arena's, live, and linked as it is told.
func (c *trial) wantLive(v View) {
	c.t.Helper()
	n, e := c.a.Get(v.Id)
	if e != api.OK || v != (View{v.Id, n.Left, n.Right, n.Height, n.Run}) {
		c.t.Fatalf("P7.3: told is %v, the arena has %v, %d", v, n, e)
	}
}

// hanging is what hangs on a node, in order; the order, the rule and the heights
// are asked on the way.
func (c *trial) hanging(at []View, id uint32, done []View) []View {
	c.t.Helper()
	if id == 0 {
		return done
	}
	if uint64(id) >= uint64(len(at)) || at[id].Id != id {
		c.t.Fatalf("P7.3: the node %d hangs on the root, and is not told", id)
	}
	v := at[id]
	at[id] = View{} // so that it is not told again: a ring of links ends here
	left, right := c.heightOf(v.Left), c.heightOf(v.Right)
	if v.Height != 1+max(left, right) {
		c.t.Fatalf("P7.3: %v has branches of the heights %d and %d", v, left, right)
	}
	if left > right+1 || right > left+1 {
		c.t.Fatalf("P7.3: the rule: %v has branches of the heights %d and %d", v, left, right)
	}
	done = c.hanging(at, v.Left, done)
	done = append(done, v)
	return c.hanging(at, v.Right, done)
}

// heightOf tells the height that a branch's root has, 0 of no branch.
func (c *trial) heightOf(id uint32) int {
	n, _ := c.a.Get(id)
	return n.Height
}

// wantRuns holds what Views, All and Len tell against the plain form.
func (c *trial) wantRuns(views []View) {
	c.t.Helper()
	all := c.x.All()
	if !slices.Equal(all, c.p.runs) {
		c.t.Fatalf("P7.2: All: %v, want %v", all, c.p.runs)
	}
	if got := c.x.Len(); got != len(c.p.runs) {
		c.t.Fatalf("P7.2: Len: %d, want %d", got, len(c.p.runs))
	}
	if len(views) != len(all) || (c.x.Root() == 0) != (len(all) == 0) {
		c.t.Fatalf("P7.2: %d Views, Root %d, of %d runs", len(views), c.x.Root(), len(all))
	}
	for i, v := range views {
		if v.Run != c.p.runs[i] {
			c.t.Fatalf("P7.2: Views: %v, want the runs %v", views, c.p.runs)
		}
	}
}

// wantAsked holds Find, Floor and Ceil of a number against the plain form.
func (c *trial) wantAsked(lba int) {
	c.t.Helper()
	for _, q := range []struct {
		name      string
		got, want func(int) (api.Run, bool)
	}{{"Find", c.x.Find, c.p.find}, {"Floor", c.x.Floor, c.p.floor}, {"Ceil", c.x.Ceil, c.p.ceil}} {
		got, ok := q.got(lba)
		want, there := q.want(lba)
		if got != want || ok != there {
			c.t.Fatalf("P7.2: %s(%d): %v, %v; want %v, %v", q.name, lba, got, ok, want, there)
		}
	}
}

// edges are numbers at which an int could go wrong.
func edges() []int {
	return []int{math.MinInt, math.MinInt + 1, math.MinInt32 - 1, math.MinInt32, -1, 0, 1, math.MaxInt32, math.MaxInt32 + 1, 1 << 32, 1<<32 + 1, math.MaxInt - 1, math.MaxInt}
}

// wantAskedAll asks at, below and above each run, and at the edges.
func (c *trial) wantAskedAll() {
	c.t.Helper()
	for _, lba := range edges() {
		c.wantAsked(lba)
	}
	for _, r := range c.p.runs {
		for _, by := range []int{-1, 0, 1} {
			c.wantAsked(r.Lba + by) // wrapped round at an end, it is the other end
		}
	}
}

// text tells a tree's links: (left lba right).
func (c *trial) text() string {
	at := map[uint32]View{}
	for _, v := range c.x.Views() {
		at[v.Id] = v
	}
	var tell func(id uint32) string
	tell = func(id uint32) string {
		if id == 0 {
			return ""
		}
		v := at[id]
		return "(" + tell(v.Left) + strconv.Itoa(v.Run.Lba) + tell(v.Right) + ")"
	}
	return tell(c.x.Root())
}

// runOf is a run with that Lba, and a Len and Phys of its own.
func runOf(lba int) api.Run { return api.Run{Lba: lba, Len: -3 * lba, Phys: lba + 7} }

// grown is a tree of runs that were inserted in that order.
func grown(t *testing.T, size int, lbas ...int) *trial {
	t.Helper()
	c := trialOf(t, size)
	for _, lba := range lbas {
		if e := c.insert(runOf(lba)); e != api.OK {
			t.Fatalf("P7.1: Insert of %d: %d", lba, e)
		}
	}
	return c
}

func TestEmpty(t *testing.T) {
	for _, size := range []int{1, 2, 3, api.MaxRuns} {
		c := trialOf(t, size)
		empty := func() {
			t.Helper()
			if c.x.Root() != 0 || c.x.Len() != 0 || len(c.x.All()) != 0 || len(c.x.Views()) != 0 || c.a.Live() != 0 {
				t.Fatalf("P7.2: an empty tree: Root %d, Len %d, All %v, Views %v, live %d", c.x.Root(), c.x.Len(), c.x.All(), c.x.Views(), c.a.Live())
			}
			for _, lba := range edges() {
				c.refuseDelete(lba)
				c.refuseChange(runOf(lba))
				for _, ask := range []func(int) (api.Run, bool){c.x.Find, c.x.Floor, c.x.Ceil} {
					if r, ok := ask(lba); ok || r != (api.Run{}) {
						t.Fatalf("R2: an empty tree has %v, %v at %d", r, ok, lba)
					}
				}
			}
		}
		empty()
		for round := range 3 {
			c.insert(runOf(round))
			c.remove(round)
			empty()
		}
	}
}

// orders are the numbers from 0 to n - 1, rising, falling, and mixed.
func orders(n int) [][]int {
	rising, falling, mixed := []int{}, []int{}, []int{}
	for i := range n {
		rising = append(rising, i)
		falling = append(falling, n-1-i)
		mixed = append(mixed, i)
	}
	d := dice(n)
	for i := n - 1; i > 0; i-- {
		j := d.roll(i + 1)
		mixed[i], mixed[j] = mixed[j], mixed[i]
	}
	zigzag := []int{}
	for i := range n {
		if i%2 == 0 {
			zigzag = append(zigzag, i/2)
		} else {
			zigzag = append(zigzag, n-1-i/2)
		}
	}
	return [][]int{rising, falling, mixed, zigzag}
}

func TestInsertUntilFull(t *testing.T) {
	for _, size := range []int{1, 2, 3, 4, 7, 8, 33, 511, api.MaxRuns} {
		for _, order := range orders(size) {
			c := trialOf(t, size)
			for _, i := range order {
				lba := 3*i - size
				if e := c.insert(runOf(lba)); e != api.OK {
					t.Fatalf("P7.1: Insert of %d: %d", lba, e)
				}
			}
			c.wantAskedAll()
			for _, i := range order[:min(size, 12)] {
				lba := 3*i - size
				c.refuseInsert(runOf(lba), api.EARG)
				c.refuseInsert(api.Run{Lba: lba, Len: 99, Phys: 98}, api.EARG)
				c.refuseInsert(runOf(lba+1), api.EFULL)
				c.refuseInsert(runOf(lba-1), api.EFULL)
			}
			for _, lba := range []int{math.MinInt, math.MaxInt} {
				c.refuseInsert(runOf(lba), api.EFULL)
			}
			// One goes: there is room for one.
			c.remove(3*order[0] - size)
			if e := c.insert(runOf(math.MaxInt)); e != api.OK {
				t.Fatalf("P7.1: Insert into the last free node: %d", e)
			}
			c.refuseInsert(runOf(math.MinInt), api.EFULL)
			c.refuseInsert(runOf(math.MaxInt), api.EARG)
		}
	}
}

// A run that is there is not put in again, however much room there is.
func TestInsertAgain(t *testing.T) {
	c := trialOf(t, 20)
	for _, lba := range []int{5, -3, 8, 0, 7, -9} {
		c.insert(runOf(lba))
		for _, r := range c.x.All() {
			c.refuseInsert(r, api.EARG)
			c.refuseInsert(api.Run{Lba: r.Lba, Len: 1, Phys: 2}, api.EARG)
		}
	}
}

// permutations calls with each order of a list.
func permutations(list []int, from int, call func([]int)) {
	if from == len(list) {
		call(list)
		return
	}
	for i := from; i < len(list); i++ {
		list[from], list[i] = list[i], list[from]
		permutations(list, from+1, call)
		list[from], list[i] = list[i], list[from]
	}
}

// Lbas below 0 and at the ends of int, in each order.
func TestEnds(t *testing.T) {
	ends := []int{math.MinInt, math.MinInt + 1, -1, 0, math.MaxInt - 1, math.MaxInt}
	permutations(ends, 0, func(order []int) {
		c := trialOf(t, len(order))
		for _, lba := range order {
			c.insert(api.Run{Lba: lba, Len: math.MaxInt, Phys: math.MinInt})
		}
		c.wantAskedAll()
		for i, lba := range order {
			c.refuseInsert(runOf(lba), api.EARG)
			c.change(api.Run{Lba: lba, Len: i, Phys: -i})
			c.remove(lba)
			c.refuseDelete(lba)
			c.wantAskedAll()
		}
	})
}

// What Len and Phys are makes no difference.
func TestAnyLenAndPhys(t *testing.T) {
	c := trialOf(t, api.MaxRuns)
	lba := 0
	for _, length := range edges() {
		for _, phys := range edges() {
			r := api.Run{Lba: lba, Len: length, Phys: phys}
			if e := c.insert(r); e != api.OK {
				t.Fatalf("P7.1: Insert(%v): %d", r, e)
			}
			if got, ok := c.x.Find(lba); got != r || !ok {
				t.Fatalf("P7.2: Find(%d): %v, %v; want %v", lba, got, ok, r)
			}
			lba++
		}
	}
	c.wantAskedAll()
}

func TestChange(t *testing.T) {
	c := grown(t, 9, 10, 4, 20, -6, 7, 15, 30)
	for _, length := range edges() {
		for _, phys := range edges() {
			for _, lba := range []int{10, 4, 20, -6, 30} {
				r := api.Run{Lba: lba, Len: length, Phys: phys}
				if e := c.change(r); e != api.OK {
					t.Fatalf("P7.1: Change(%v): %d", r, e)
				}
				if got, ok := c.x.Find(lba); got != r || !ok {
					t.Fatalf("P7.2: Find(%d): %v, %v; want %v", lba, got, ok, r)
				}
			}
		}
	}
	c.wantAskedAll()
	for _, lba := range append(edges(), -7, -5, 3, 5, 9, 11, 29, 31) {
		c.refuseChange(runOf(lba))
		c.refuseChange(api.Run{Lba: lba})
	}
	c.remove(10)
	c.refuseChange(runOf(10))
}

func TestDelete(t *testing.T) {
	for _, k := range []struct {
		name   string
		lbas   []int
		before string
		lba    int
	}{
		{"the last one", []int{1}, "(1)", 1},
		{"a left leaf", []int{2, 1, 3}, "((1)2(3))", 1},
		{"a right leaf", []int{2, 1, 3}, "((1)2(3))", 3},
		{"the root, two leaves on it", []int{2, 1, 3}, "((1)2(3))", 2},
		{"the root, a left branch alone", []int{2, 1}, "((1)2)", 2},
		{"the root, a right branch alone", []int{1, 2}, "(1(2))", 1},
		{"a left branch alone", []int{4, 2, 5, 1, 6}, "(((1)2)4(5(6)))", 2},
		{"a right branch alone", []int{4, 2, 5, 1, 6}, "(((1)2)4(5(6)))", 5},
		{"two branches", []int{5, 3, 7, 2, 4, 6, 8, 1}, "((((1)2)3(4))5((6)7(8)))", 3},
		{"two branches, the next one is their root", []int{5, 3, 7, 2, 4, 6, 8, 9}, "(((2)3(4))5((6)7(8(9))))", 7},
		{"the root, the next one deep below", []int{5, 3, 9, 2, 4, 7, 10, 1, 6, 8}, "((((1)2)3(4))5(((6)7(8))9(10)))", 5},
		{"the root, the next one with a right branch", []int{5, 3, 9, 2, 4, 6, 10, 1, 7}, "((((1)2)3(4))5((6(7))9(10)))", 5},
	} {
		c := grown(t, 12, k.lbas...)
		if got := c.text(); got != k.before {
			t.Fatalf("%s: the tree is %s, want %s", k.name, got, k.before)
		}
		c.refuseDelete(0)
		c.refuseDelete(99)
		if e := c.remove(k.lba); e != api.OK {
			t.Errorf("P7.1: %s: Delete(%d): %d", k.name, k.lba, e)
		}
		if r, ok := c.x.Find(k.lba); ok || r != (api.Run{}) {
			t.Errorf("P7.1: %s: behind Delete(%d) there is %v", k.name, k.lba, r)
		}
		c.wantAskedAll()
		c.refuseDelete(k.lba)
		if e := c.insert(runOf(k.lba)); e != api.OK {
			t.Errorf("P7.1: %s: Insert of %d behind its Delete: %d", k.name, k.lba, e)
		}
	}
}

// Each way in which an Insert breaks the rule: at the root, and below it, with
// branches that change their place.
func TestInsertBreaksTheRule(t *testing.T) {
	for _, k := range []struct {
		name   string
		lbas   []int
		before string
		lba    int
	}{
		{"left, left", []int{3, 2}, "((2)3)", 1},
		{"left, right", []int{3, 1}, "((1)3)", 2},
		{"right, right", []int{1, 2}, "(1(2))", 3},
		{"right, left", []int{1, 3}, "(1(3))", 2},
		{"left, left, with branches", []int{7, 4, 8, 2, 5}, "(((2)4(5))7(8))", 1},
		{"left, right, left", []int{8, 3, 9, 2, 6}, "(((2)3(6))8(9))", 5},
		{"left, right, right", []int{8, 3, 9, 2, 6}, "(((2)3(6))8(9))", 7},
		{"right, right, with branches", []int{2, 1, 5, 4, 7}, "((1)2((4)5(7)))", 8},
		{"right, left, left", []int{2, 1, 7, 5, 8}, "((1)2((5)7(8)))", 4},
		{"right, left, right", []int{2, 1, 7, 5, 8}, "((1)2((5)7(8)))", 6},
		{"below the root, left", []int{5, 3, 8, 2, 9}, "(((2)3)5(8(9)))", 1},
		{"below the root, right", []int{5, 3, 8, 2, 9}, "(((2)3)5(8(9)))", 10},
	} {
		c := grown(t, 12, k.lbas...)
		if got := c.text(); got != k.before {
			t.Fatalf("%s: the tree is %s, want %s", k.name, got, k.before)
		}
		if e := c.insert(runOf(k.lba)); e != api.OK {
			t.Errorf("P7.1: %s: Insert of %d: %d", k.name, k.lba, e)
		}
		c.wantAskedAll()
	}
}

// Each way in which a Delete breaks the rule.
func TestDeleteBreaksTheRule(t *testing.T) {
	for _, k := range []struct {
		name   string
		lbas   []int
		before string
		lba    int
	}{
		{"left, left", []int{3, 2, 4, 1}, "(((1)2)3(4))", 4},
		{"left, right", []int{3, 1, 4, 2}, "((1(2))3(4))", 4},
		{"left, both alike", []int{4, 2, 5, 1, 3}, "(((1)2(3))4(5))", 5},
		{"right, right", []int{2, 1, 3, 4}, "((1)2(3(4)))", 1},
		{"right, left", []int{2, 1, 4, 3}, "((1)2((3)4))", 1},
		{"right, both alike", []int{2, 1, 4, 3, 5}, "((1)2((3)4(5)))", 1},
		{"the root goes, left, left", []int{3, 2, 4, 1}, "(((1)2)3(4))", 3},
		{"the root goes, left, right", []int{3, 1, 4, 2}, "((1(2))3(4))", 3},
		{"the root goes, left, both alike", []int{4, 2, 5, 1, 3}, "(((1)2(3))4(5))", 4},
		{"the root goes, below it right, right", []int{4, 2, 6, 1, 5, 7, 8}, "(((1)2)4((5)6(7(8))))", 4},
		{"the root goes, below it right, left", []int{4, 2, 6, 1, 5, 8, 7}, "(((1)2)4((5)6((7)8)))", 4},
		{"the root goes, below it right, both alike", []int{4, 2, 6, 1, 3, 5, 8, 0, 7, 9}, "((((0)1)2(3))4((5)6((7)8(9))))", 4},
		{"at two nodes", []int{5, 3, 10, 2, 4, 8, 11, 1, 7, 9, 12, 6}, "((((1)2)3(4))5((((6)7)8(9))10(11(12))))", 4},
	} {
		c := grown(t, 14, k.lbas...)
		if got := c.text(); got != k.before {
			t.Fatalf("%s: the tree is %s, want %s", k.name, got, k.before)
		}
		if e := c.remove(k.lba); e != api.OK {
			t.Errorf("P7.1: %s: Delete(%d): %d", k.name, k.lba, e)
		}
		c.wantAskedAll()
	}
}

// branch is a shape that keeps the rule, nil for none.
type branch struct{ left, right *branch }

// shapes are all that are so high.
func shapes(height int) []*branch {
	if height <= 0 {
		return []*branch{nil}[:height+1] // one of the height 0, none below
	}
	all := []*branch{}
	pairs := func(one, two int) {
		if one < 0 || two < 0 {
			return
		}
		for _, l := range shapes(one) {
			for _, r := range shapes(two) {
				all = append(all, &branch{l, r})
			}
		}
	}
	pairs(height-1, height-1)
	pairs(height-1, height-2)
	pairs(height-2, height-1)
	return all
}

// leanest is the shape with the fewest nodes that is so high, the higher branch
// at the left, at the right, or in turns.
func leanest(height, lean int) *branch {
	if height <= 0 {
		return nil
	}
	high, low := leanest(height-1, lean), leanest(height-2, lean)
	if lean == 0 || lean == 2 && height%2 == 0 {
		return &branch{high, low}
	}
	return &branch{low, high}
}

// number gives the nodes of a shape their Lbas, 0, 2, 4 .. from the left.
func number(b *branch, lbas map[*branch]int) {
	if b != nil {
		number(b.left, lbas)
		lbas[b] = 2 * len(lbas)
		number(b.right, lbas)
	}
}

// shaped is a tree of that shape: its nodes are inserted level by level, so that
// the rule holds on the way, too, and nothing has to be turned.
func shaped(t *testing.T, b *branch) *trial {
	t.Helper()
	lbas := map[*branch]int{}
	number(b, lbas)
	order := []int{}
	for level := []*branch{b}; len(level) > 0; {
		next := []*branch{}
		for _, at := range level {
			if at != nil {
				order = append(order, lbas[at])
				next = append(next, at.left, at.right)
			}
		}
		level = next
	}
	c := trialOf(t, len(order)+1)
	for _, lba := range order {
		c.p.insert(runOf(lba))
		if e := c.x.Insert(runOf(lba)); e != api.OK {
			t.Fatalf("P7.1: Insert of %d: %d", lba, e)
		}
	}
	var tell func(b *branch) string
	tell = func(b *branch) string {
		if b == nil {
			return ""
		}
		return "(" + tell(b.left) + strconv.Itoa(lbas[b]) + tell(b.right) + ")"
	}
	if got, want := c.text(), tell(b); got != want {
		t.Fatalf("the tree is %s, want %s", got, want)
	}
	c.wantSound()
	return c
}

// Each shape up to a height: one more at each place, and each one gone.
func TestAllShapes(t *testing.T) {
	for height := 1; height <= 4; height++ {
		all := shapes(height)
		if want := []int{0, 1, 3, 15, 315}[height]; len(all) != want {
			t.Fatalf("%d shapes of the height %d, want %d", len(all), height, want)
		}
		for _, b := range all {
			n := shaped(t, b).x.Len()
			for i := range n + 1 {
				c := shaped(t, b)
				c.insert(runOf(2*i - 1))
				c.wantAskedAll()
				c.remove(2*i - 1)
			}
			for i := range n {
				c := shaped(t, b)
				c.remove(2 * i)
				c.wantAskedAll()
			}
		}
	}
}

// The trees that are as high as may be: a Delete is felt up to the root.
func TestLeanestShapes(t *testing.T) {
	for height := 1; height <= 12; height++ {
		for lean := range 3 {
			b := leanest(height, lean)
			c := shaped(t, b)
			if h := c.heightOf(c.x.Root()); h != height {
				t.Fatalf("P7.3: the root is %d high, want %d", h, height)
			}
			n := c.x.Len()
			for i := 0; i < n; i += 1 + n/40 {
				one := shaped(t, b)
				one.remove(2 * i)
				one.insert(runOf(2*i + 1))
				last := shaped(t, b)
				last.remove(2 * (n - 1 - i))
				last.insert(runOf(2*(n-1-i) - 1))
			}
			for i := range n {
				c.remove(2 * i) // rising, till none is left
			}
		}
	}
}

// Each order of coming and each of going, for few runs.
func TestAllOrders(t *testing.T) {
	permutations([]int{0, 1, 2, 3, 4, 5, 6}, 0, func(order []int) {
		c := grown(t, 7, order...)
		for i := range order {
			c.remove(order[(i*3+order[0])%7])
		}
	})
	permutations([]int{0, 1, 2, 3, 4}, 0, func(coming []int) {
		permutations([]int{0, 1, 2, 3, 4}, 0, func(going []int) {
			c := grown(t, 5, coming...)
			for _, lba := range going {
				c.remove(lba)
			}
		})
	})
}

// A full tree of MaxRuns nodes.
func TestFull(t *testing.T) {
	for _, order := range orders(api.MaxRuns) {
		c := grown(t, api.MaxRuns, order...)
		if c.x.Len() != api.MaxRuns || len(c.x.All()) != api.MaxRuns || len(c.x.Views()) != api.MaxRuns || c.a.Live() != api.MaxRuns || len(c.a.Free()) != 0 {
			t.Fatalf("P7.2: a full tree: Len %d, %d runs, %d nodes, %d live", c.x.Len(), len(c.x.All()), len(c.x.Views()), c.a.Live())
		}
		for i, r := range c.x.All() {
			if r != runOf(i) {
				t.Fatalf("P7.2: All[%d]: %v", i, r)
			}
		}
		if r := c.x.Root(); r < 1 || r > api.MaxRuns {
			t.Fatalf("P7.2: Root: %d", r)
		}
		c.wantAskedAll()
		c.refuseInsert(runOf(-1), api.EFULL)
		c.refuseInsert(runOf(0), api.EARG)
		c.refuseDelete(-1)
		c.refuseChange(runOf(512))
		for _, i := range order {
			c.remove(i)
		}
		c.wantAskedAll()
	}
}

// An arena whose free list is not in its first order any more.
func TestUsedArena(t *testing.T) {
	a, _ := arena.New(6)
	for range 6 {
		id, _ := a.Take()
		a.Put(id, arena.Node{Left: id, Right: id, Height: 9, Run: api.Run{Lba: 1, Len: 2, Phys: 3}})
	}
	for _, id := range []uint32{4, 1, 6, 2, 5, 3} {
		a.Give(id)
	}
	for range 2 { // a second one, when the first is empty
		c := &trial{t: t, x: New(a), a: a, p: &plain{size: 6}}
		c.wantSound()
		for _, lba := range []int{1, 2, 3, 4, 5, 6} {
			c.insert(runOf(lba))
		}
		c.refuseInsert(runOf(7), api.EFULL)
		c.wantAskedAll()
		for _, lba := range []int{4, 2, 6, 1, 3, 5} {
			c.remove(lba)
		}
	}
}

// Two trees over two arenas know nothing of each other.
func TestTwoTrees(t *testing.T) {
	one, two := grown(t, 5, 1, 2, 3), trialOf(t, 5)
	two.wantSound()
	for _, lba := range []int{9, 2, 7} {
		two.insert(runOf(lba))
		one.wantSound()
	}
	one.remove(2)
	two.wantSound()
	two.change(api.Run{Lba: 7, Len: 70})
	one.wantSound()
	one.wantAskedAll()
	two.wantAskedAll()
}

// What All and Views answer is the caller's own, spare room too.
func TestAnswersAreApart(t *testing.T) {
	c := grown(t, 9, 5, 2, 8, 1, 3)
	wrong := api.Run{Lba: 77, Len: 77, Phys: 77}
	spoil := func(runs []api.Run, views []View) {
		for i := range runs[:cap(runs)] {
			runs[:cap(runs)][i] = wrong
		}
		for i := range views[:cap(views)] {
			views[:cap(views)][i] = View{7, 7, 7, 7, wrong}
		}
	}
	runs, views := c.x.All(), c.x.Views()
	sameRuns, sameViews := slices.Clone(runs), slices.Clone(views)
	spoil(c.x.All(), c.x.Views())
	if !slices.Equal(runs, sameRuns) || !slices.Equal(views, sameViews) {
		t.Fatalf("R4: two answers share memory: %v, %v", runs, views)
	}
	c.wantSound()
	c.insert(runOf(4))
	c.insert(runOf(0))
	c.change(api.Run{Lba: 8})
	c.remove(5)
	c.remove(1)
	c.x.All()
	c.x.Views()
	if !slices.Equal(runs, sameRuns) || !slices.Equal(views, sameViews) {
		t.Fatalf("R4: a later call changed what was answered: %v, %v", runs, views)
	}
	spoil(runs, views)
	_ = append(c.x.All(), wrong)
	_ = append(c.x.Views(), View{Id: 7})
	c.wantSound()
	c.wantAskedAll()
	empty := trialOf(t, 2)
	_ = append(empty.x.All(), wrong)
	_ = append(empty.x.Views(), View{Id: 7})
	empty.insert(runOf(1))
	empty.wantAskedAll()
}

// Where there is nothing, the run is zero; asking changes nothing.
func TestAsking(t *testing.T) {
	c := grown(t, 8, 10, 20, 30, 40, 50)
	views, root := c.x.Views(), c.x.Root()
	for lba := 5; lba <= 55; lba++ {
		c.wantAsked(lba)
	}
	for _, lba := range edges() {
		c.wantAsked(lba)
	}
	for _, k := range []struct {
		ask func(int) (api.Run, bool)
		lba int
	}{{c.x.Find, 11}, {c.x.Find, 9}, {c.x.Find, math.MaxInt}, {c.x.Floor, 9}, {c.x.Floor, math.MinInt}, {c.x.Ceil, 51}, {c.x.Ceil, math.MaxInt}} {
		if r, ok := k.ask(k.lba); ok || r != (api.Run{}) {
			t.Errorf("R2: at %d: %v, %v", k.lba, r, ok)
		}
	}
	if !slices.Equal(c.x.Views(), views) || c.x.Root() != root {
		t.Errorf("R3: asking changed the tree")
	}
	c.wantSound()
}

// dice is a row of numbers that is the same at every run.
type dice uint64

func (d *dice) roll(n int) int {
	*d = *d*6364136223846793005 + 1442695040888963407
	return int(uint64(*d) >> 33 % uint64(n))
}

// Rows that rise or fall: at one end they come, at the other one (or the same) they go.
func TestLongRowsAtTheEnds(t *testing.T) {
	for _, size := range []int{1, 2, 5, 40, api.MaxRuns} {
		calls := size + min(2*size, 100)
		for _, sign := range []int{1, -1} {
			queue, pile := trialOf(t, size), trialOf(t, size)
			for i := range calls {
				lba := sign * i
				if queue.insert(runOf(lba)) == api.EFULL {
					queue.remove(sign * (i - size))
					queue.insert(runOf(lba))
				}
				pile.insert(runOf(lba))
			}
			for i := calls - 1; i >= 0; i-- {
				queue.remove(sign * i)
				pile.remove(sign * i)
			}
			queue.wantAskedAll()
			pile.wantAskedAll()
		}
	}
}

// mixedRow is a long row of all calls; the tree fills up, and empties, in turns.
func mixedRow(c *trial, d *dice, calls, room int) {
	comes := 50
	for i := range calls {
		if i%300 == 0 {
			comes = 15 + d.roll(71)
		}
		lba := d.roll(room) - room/2
		if d.roll(40) == 0 {
			lba = edges()[d.roll(len(edges()))]
		}
		r := api.Run{Lba: lba, Len: i, Phys: -i}
		switch k := d.roll(100); {
		case k < 10:
			c.change(r)
		case d.roll(100) < comes:
			c.insert(r)
		case len(c.p.runs) > 0 && d.roll(2) == 0:
			c.remove(c.p.runs[d.roll(len(c.p.runs))].Lba)
		default:
			c.remove(lba)
		}
		c.wantAsked(lba)
		c.wantAsked(d.roll(room) - room/2)
		if i%25 == 0 {
			c.wantAskedAll()
		}
	}
}

// filled is a tree with runs at random places, as many as told.
func filled(t *testing.T, d *dice, size, room, many int) *trial {
	t.Helper()
	c := trialOf(t, size)
	for len(c.p.runs) < many {
		r := runOf(d.roll(room) - room/2)
		if got, want := c.x.Insert(r), c.p.insert(r); got != want {
			t.Fatalf("P7.1: Insert(%v): %d, want %d", r, got, want)
		}
	}
	c.wantSound()
	return c
}

func TestLongRows(t *testing.T) {
	for _, k := range []struct{ size, room, many, calls int }{
		{1, 3, 0, 1000}, {2, 4, 0, 1500}, {3, 6, 0, 2000}, {7, 12, 0, 3000}, {12, 20, 6, 3000}, {40, 60, 20, 4000}, {40, 5000, 40, 2000},
		{511, 700, 490, 1200}, {api.MaxRuns, 700, 500, 1200}, {api.MaxRuns, 100000, api.MaxRuns, 1200},
	} {
		for seed := range 3 {
			d := dice(seed*1000 + k.size)
			mixedRow(filled(t, &d, k.size, k.room, k.many), &d, k.calls, k.room)
		}
	}
}

// Each row of calls up to a length, at a small size.
func TestAllShortRows(t *testing.T) {
	const size, lbas, length = 3, 4, 5
	const kinds = 2 * lbas // Insert and Delete of each
	rows := 1
	for range length {
		rows *= kinds
	}
	for row := range rows {
		c := trialOf(t, size)
		for i, rest := 0, row; i < length; i, rest = i+1, rest/kinds {
			if kind := rest % kinds; kind < lbas {
				c.insert(api.Run{Lba: kind, Len: i})
			} else {
				c.remove(kind - lbas)
			}
		}
		c.wantAskedAll()
	}
}

// The same calls have the same answers (R5).
func TestSameCallsSameAnswers(t *testing.T) {
	row := func() []View {
		out := []View{}
		c := trialOf(t, 20)
		d := dice(5)
		for range 400 {
			if lba := d.roll(30); d.roll(2) == 0 {
				c.insert(runOf(lba))
			} else {
				c.remove(lba)
			}
			out = append(out, View{Id: c.x.Root()})
			out = append(out, c.x.Views()...)
		}
		return out
	}
	if !slices.Equal(row(), row()) {
		t.Errorf("R5: the same calls answered otherwise")
	}
}

func TestExamples(t *testing.T) {
	c := trialOf(t, 3)
	for _, k := range []struct {
		lba  int
		want api.Errno
	}{{5, api.OK}, {3, api.OK}, {8, api.OK}, {9, api.EFULL}, {5, api.EARG}} {
		if e := c.x.Insert(runOf(k.lba)); e != k.want {
			t.Errorf("P7.1: Insert of %d: %d, want %d", k.lba, e, k.want)
		}
	}
	want := func(name string, r api.Run, ok bool, should api.Run, there bool) {
		t.Helper()
		if r != should || ok != there {
			t.Errorf("P7.2: %s: %v, %v; want %v, %v", name, r, ok, should, there)
		}
	}
	r, ok := c.x.Floor(4)
	want("Floor(4)", r, ok, runOf(3), true)
	r, ok = c.x.Ceil(6)
	want("Ceil(6)", r, ok, runOf(8), true)
	r, ok = c.x.Floor(2)
	want("Floor(2)", r, ok, api.Run{}, false)
	r, ok = c.x.Find(5)
	want("Find(5)", r, ok, runOf(5), true)
	if e := c.x.Delete(5); e != api.OK {
		t.Errorf("P7.1: Delete(5): %d", e)
	}
	if e := c.x.Delete(5); e != api.ENONE {
		t.Errorf("P7.1: Delete(5) again: %d", e)
	}
	if all := c.x.All(); !slices.Equal(all, []api.Run{runOf(3), runOf(8)}) || c.x.Len() != 2 {
		t.Errorf("P7.2: All: %v, Len: %d", all, c.x.Len())
	}
}
