package span

import (
	"math"
	"slices"
	"testing"

	"ferrule/api"
)

// applyCase is one Apply, and the runs behind it, or the error.
type applyCase struct {
	name string
	ops  []api.Op
	want []api.Run
	e    api.Errno
}

// wantApplies does each Apply on a map of its own, of each kind, that was told the first calls.
func wantApplies(t *testing.T, capacity, most int, first []api.Op, cases []applyCase) {
	t.Helper()
	for _, k := range cases {
		for _, c := range trials(t, capacity, most) {
			c.first(first)
			want := k.want
			if k.e != api.OK {
				want = c.m.Runs()
			}
			if e := c.apply(k.ops); e != k.e || !slices.Equal(c.m.Runs(), want) {
				t.Errorf("P10.2: %s: %s: %d, %v; want %d, %v", c.name, k.name, e, c.m.Runs(), k.e, want)
			}
		}
	}
}

func TestApply(t *testing.T) {
	wantApplies(t, 8, 8, opList(1, 4, 10), []applyCase{
		{name: "none", want: runList(1, 4, 10)},
		{name: "none, and not nil", ops: []api.Op{}, want: runList(1, 4, 10)},
		{name: "one Set", ops: opList(6, 2, 3), want: runList(1, 4, 10, 6, 2, 3)},
		{name: "one Clear", ops: opList(2, 1, -1), want: runList(1, 1, 10, 3, 2, 12)},
		{name: "one Set of all", ops: opList(0, 8, 0), want: runList(0, 8, 0)},
		{name: "one Clear of all", ops: opList(0, 8, -1)},
		{name: "a Clear of a hole", ops: opList(6, 2, -1), want: runList(1, 4, 10)},
		{name: "what is there already", ops: opList(2, 2, 11, 1, 1, 10), want: runList(1, 4, 10)},
		{name: "many", ops: opList(0, 1, 5, 7, 1, 6, 2, 1, 7, 4, 1, -1), want: runList(0, 1, 5, 1, 1, 10, 2, 1, 7, 3, 1, 12, 7, 1, 6)},
		{name: "the later over the earlier", ops: opList(0, 8, 100, 2, 4, 50, 3, 2, 7), want: runList(0, 2, 100, 2, 1, 50, 3, 2, 7, 5, 1, 53, 6, 2, 106)},
		{name: "the same, the other way round", ops: opList(3, 2, 7, 2, 4, 50, 0, 8, 100), want: runList(0, 8, 100)},
		{name: "Set and Clear", ops: opList(0, 8, 100, 2, 4, -1), want: runList(0, 2, 100, 6, 2, 106)},
		{name: "Clear and Set", ops: opList(2, 4, -1, 0, 8, 100), want: runList(0, 8, 100)},
		{name: "Set, Clear, Set", ops: opList(5, 2, 14, 5, 2, -1, 6, 1, 15), want: runList(1, 4, 10, 6, 1, 15)},
		{name: "they merge", ops: opList(6, 2, 15, 0, 1, 9, 5, 1, 14), want: runList(0, 8, 9)},
		{name: "the first and the last page", ops: opList(0, 1, 0, 7, 1, 1<<20), want: runList(0, 1, 0, 1, 4, 10, 7, 1, 1<<20)},
	})
}

// wrongOps are changes that are not right in a map of 8 sectors.
func wrongOps() []api.Op {
	l := opList(0, 1, -2, 0, 1, 1<<20+1, 7, 1, 1<<20+1, 0, 8, math.MaxInt, 0, 1, math.MinInt, 3, 1, math.MinInt+1, 0, 1, 1<<32, 0, 1, -1<<32)
	for _, phys := range []int{-1, 0, 5, 1 << 20} {
		for _, r := range [][2]int{
			{0, 0}, {7, 0}, {8, 0}, {0, -1}, {5, -3}, {-1, 1}, {-1, 2}, {-1, 9}, {0, 9}, {1, 8}, {7, 2}, {8, 1}, {9, 1}, {9, -1}, {512, 1},
			{math.MaxInt, 1}, {math.MaxInt, math.MaxInt}, {1, math.MaxInt}, {7, math.MaxInt}, {math.MinInt, 1}, {math.MinInt, math.MinInt},
			{math.MinInt, math.MaxInt}, {0, math.MinInt}, {0, math.MaxInt}, {-1, math.MinInt}, {1 << 32, 1}, {0, 1<<32 + 1},
		} {
			l = append(l, api.Op{Lba: r[0], Len: r[1], Phys: phys})
		}
	}
	return l
}

// A change that is not right: the first, one in the middle, the last.
func TestApplyWrong(t *testing.T) {
	good := opList(0, 8, 100, 3, 1, -1, 6, 2, 4)
	for _, wrong := range wrongOps() {
		for at := range len(good) + 1 {
			for _, c := range trials(t, 8, 8) {
				c.first(opList(1, 4, 10, 6, 1, 7))
				if e := c.apply(slices.Insert(slices.Clone(good), at, wrong)); e != api.EARG {
					t.Errorf("P10.2: %s: %v at %d: %d", c.name, wrong, at, e)
				}
				if e := c.apply(good); e != api.OK {
					t.Errorf("P10.2: %s: without it: %d", c.name, e)
				}
			}
		}
	}
}

// Near as many runs as may be.
func TestApplyFull(t *testing.T) {
	first := opList(0, 3, 10, 3, 3, 20, 8, 3, 30)
	wantApplies(t, 12, 3, first, []applyCase{
		{name: "EFULL of the first", ops: opList(7, 1, 5, 0, 12, 1), e: api.EFULL},
		{name: "EFULL of the first, a Clear", ops: opList(1, 1, -1, 0, 12, -1), e: api.EFULL},
		{name: "EFULL in the middle", ops: opList(0, 3, 50, 7, 1, 5, 0, 12, 1), e: api.EFULL},
		{name: "EFULL in the middle, a Clear", ops: opList(3, 3, 13, 6, 2, 16, 0, 1, 7, 9, 1, -1, 3, 3, 5), e: api.EFULL},
		{name: "EFULL of the last", ops: opList(3, 3, 13, 0, 1, 7, 9, 1, 5), e: api.EFULL},
		{name: "EFULL of the last, a Clear", ops: opList(3, 3, 13, 0, 1, 7, 9, 1, -1), e: api.EFULL},
		{name: "EFULL, and EARG behind it", ops: opList(7, 1, 5, 12, 1, 1), e: api.EFULL},
		{name: "EARG, and EFULL behind it", ops: opList(12, 1, 1, 7, 1, 5), e: api.EARG},
		{name: "all gone, then EARG", ops: opList(0, 12, -1, 0, 1, 1<<20+1), e: api.EARG},
		{name: "all one run, then EARG", ops: opList(0, 12, 500, 0, 0, 1), e: api.EARG},
		{name: "all other runs, then EFULL", ops: opList(0, 12, -1, 0, 1, 1, 4, 1, 1, 8, 1, 1, 10, 1, 1), e: api.EFULL},
		{name: "all other runs, then EARG", ops: opList(0, 12, -1, 1, 1, 1, 5, 1, 1, 11, 1, 1, 5, -1, -1), e: api.EARG},
		{name: "room first: it fits", ops: opList(3, 3, -1, 7, 1, 5), want: runList(0, 3, 10, 7, 1, 5, 8, 3, 30)},
		{name: "room later: it does not", ops: opList(7, 1, 5, 3, 3, -1), e: api.EFULL},
		{name: "a merge first: it fits", ops: opList(3, 3, 13, 1, 1, -1), want: runList(0, 1, 10, 2, 4, 12, 8, 3, 30)},
		{name: "a merge later: it does not", ops: opList(1, 1, -1, 3, 3, 13), e: api.EFULL},
		{name: "all would fit at once, not one after the other", ops: opList(6, 1, 5, 7, 1, 29, 6, 1, 28), e: api.EFULL},
		{name: "one after the other", ops: opList(7, 1, 29, 6, 1, 28, 3, 3, 25, 0, 3, 22), want: runList(0, 11, 22)},
		{name: "as many, moved", ops: opList(0, 3, -1, 11, 1, 5, 11, 1, -1, 0, 1, 9), want: runList(0, 1, 9, 3, 3, 20, 8, 3, 30)},
		{name: "what is there already", ops: opList(0, 3, 10, 4, 1, 21, 9, 2, 31), want: runList(0, 3, 10, 3, 3, 20, 8, 3, 30)},
	})
	wantApplies(t, 4, 1, opList(0, 4, 7), []applyCase{
		{name: "of one run none may be cut in two", ops: opList(0, 1, -1, 2, 1, -1), e: api.EFULL},
		{name: "from both ends", ops: opList(0, 1, -1, 3, 1, -1), want: runList(1, 2, 8)},
		{name: "anew", ops: opList(0, 4, -1, 2, 1, 1), want: runList(2, 1, 1)},
		{name: "anew, and one too many", ops: opList(0, 4, -1, 2, 1, 1, 0, 1, 1), e: api.EFULL},
	})
}

// Runs from a page above 2^20 on: the rest of a run that was set near it and
// then cut. No call sets such a run by itself.
func TestApplyFar(t *testing.T) {
	const last = 1 << 20
	wantApplies(t, 8, 4, opList(0, 5, last, 0, 1, -1), []applyCase{
		{name: "cut, then EARG", ops: opList(2, 1, -1, 8, 1, 1), e: api.EARG},
		{name: "gone, then EARG", ops: opList(0, 8, -1, 0, 1, last+1), e: api.EARG},
		{name: "overwritten, then EFULL", ops: opList(0, 8, 5, 1, 1, 1, 3, 1, 1, 5, 1, 1), e: api.EFULL},
		{name: "at once EARG: the far page itself", ops: opList(1, 1, last+1), e: api.EARG},
		{name: "cut", ops: opList(2, 1, -1), want: runList(1, 1, last+1, 3, 2, last+3)},
		{name: "cut from its beginning on", ops: opList(1, 2, -1), want: runList(3, 2, last+3)},
		{name: "whole again", ops: opList(0, 1, last), want: runList(0, 5, last)},
		{name: "gone and set anew", ops: opList(0, 8, -1, 2, 2, last), want: runList(2, 2, last)},
	})
	// Three far runs, and between them near ones where the far ones came from, at just as many runs as may be.
	between := opList(0, 8, last, 0, 1, -1, 3, 1, 5, 6, 1, -1)
	wantApplies(t, 8, 4, between, []applyCase{
		{name: "one too many", ops: opList(0, 1, 5), e: api.EFULL},
		{name: "one too many behind a change", ops: opList(3, 1, 6, 6, 1, 9), e: api.EFULL},
		{name: "all gone, then EARG", ops: opList(0, 8, -1, -1, 1, 1), e: api.EARG},
		{name: "all one, then EFULL", ops: opList(0, 8, 5, 1, 1, 1, 3, 1, 1), e: api.EFULL},
		{name: "all but one gone, then EARG", ops: opList(0, 7, -1, 8, 1, -1), e: api.EARG},
		{name: "it fits", ops: opList(3, 1, -1, 6, 1, last), want: runList(1, 2, last+1, 4, 2, last+4, 6, 1, last, 7, 1, last+7)},
	})
	for _, c := range trials(t, 8, 4) {
		c.first(between)
		if want := runList(1, 2, last+1, 3, 1, 5, 4, 2, last+4, 7, 1, last+7); !slices.Equal(c.m.Runs(), want) {
			t.Fatalf("%s: %v, want %v", c.name, c.m.Runs(), want)
		}
	}
	// The farthest page of all, in the last sector of all.
	wantApplies(t, 512, 2, opList(0, 512, last, 1, 510, -1, 0, 1, -1), []applyCase{
		{name: "gone, then EARG", ops: opList(0, 512, -1, 512, 1, 0), e: api.EARG},
		{name: "overwritten, then EFULL", ops: opList(510, 2, 0, 3, 1, 0, 5, 1, 0), e: api.EFULL},
		{name: "one more", ops: opList(510, 1, last), want: runList(510, 1, last, 511, 1, last+511)},
	})
}

// Far runs, each by itself, as many as may be.
func TestApplyManyFar(t *testing.T) {
	for _, c := range trials(t, 512, 256) {
		calls := opList(0, 512, 1<<20, 0, 1, -1)
		for lba := 2; lba < 512; lba += 2 {
			calls = append(calls, api.Op{Lba: lba, Len: 1, Phys: -1})
		}
		c.first(calls)
		if c.m.Count() != 256 {
			t.Fatalf("%s: %d runs", c.name, c.m.Count())
		}
		for _, k := range []applyCase{
			{ops: opList(0, 512, -1, 0, 1, -2), e: api.EARG},
			{ops: opList(0, 1, 5), e: api.EFULL},
			{ops: opList(1, 1, -1, 0, 1, 5, 256, 1, 9), e: api.EFULL},
			{ops: opList(1, 1, -1, 0, 1, 5, 256, 1, 9, 511, 2, 9), e: api.EFULL},
		} {
			if e := c.apply(k.ops); e != k.e {
				t.Errorf("P10.2: %s: Apply(%v): %d, want %d", c.name, k.ops, e, k.e)
			}
		}
	}
}

// stubborn is a map that, once, refuses a change of its own accord.
type stubborn struct {
	Map
	left int // so many changes are taken ahead of that
}

func (s *stubborn) refuses() bool {
	s.left--
	return s.left == -1
}

func (s *stubborn) Set(lba, n, phys int) api.Errno {
	if s.refuses() {
		return api.EBAD
	}
	return s.Map.Set(lba, n, phys)
}

func (s *stubborn) Clear(lba, n int) api.Errno {
	if s.refuses() {
		return api.EDEAD
	}
	return s.Map.Clear(lba, n)
}

// Of a map of another kind the error is its own, whatever it is.
func TestApplyStubborn(t *testing.T) {
	ops := opList(0, 8, 100, 2, 4, -1, 3, 1, 7, 0, 1, -1)
	first := opList(0, 5, 1<<20, 0, 1, -1, 2, 1, 5)
	for left, want := range []api.Errno{api.EBAD, api.EDEAD, api.EBAD, api.EDEAD, api.OK} {
		for _, c := range trials(t, 8, 4) {
			c.first(first)
			m := &stubborn{c.m, left}
			if want == api.OK {
				c.p.apply(ops)
			}
			if e := Apply(m, ops); e != want {
				t.Errorf("P10.2: %s: the change %d is refused with %d: %d", c.name, left, want, e)
			}
			c.wantSame("P10.2")
		}
	}
}

// wide is a map that takes each page, and that notes what it is asked for.
type wide struct {
	*plain
	asked  [][2]int
	closed bool // it takes no Set any more
}

func (w *wide) Set(lba, n, phys int) api.Errno {
	w.asked = append(w.asked, [2]int{lba, n})
	if w.closed || !w.right(lba, n) || phys < 0 {
		return api.EARG
	}
	for i := range n {
		w.page[lba+i] = phys + i
	}
	w.closed = phys == 99
	return api.OK
}

// A map of another kind may have runs that no call of runs or flat leads to.
func TestApplyWide(t *testing.T) {
	for _, phys := range []int{1<<20 + 5, 1 << 40, 1 << 20, 5} {
		m := &wide{plain: plainOf(4, 4)}
		m.Set(0, 2, phys)
		if e := Apply(m, opList(0, 4, 7, 1, 1, -1, 4, 1, 1)); e != api.EARG || !slices.Equal(m.Runs(), runList(0, 2, phys)) {
			t.Errorf("P10.2: Apply to a run from %d on: %d, %v", phys, e, m.Runs())
		}
	}
	m := &wide{plain: plainOf(4, 4)}
	m.Set(1, 2, 5)
	if e := Apply(m, opList(3, 1, 99, 0, 1, 1)); e != api.EARG {
		t.Errorf("P10.2: Apply to a map that takes no Set any more: %d", e)
	}
	for _, r := range m.asked {
		if !m.right(r[0], r[1]) {
			t.Errorf("P10.2: Apply asks for the range %v", r)
		}
	}
}

// Behind a refusal a map goes on as one does that was not asked.
func TestApplyGoesOn(t *testing.T) {
	for i, c := range trials(t, 10, 3) {
		other := trials(t, 10, 3)[i]
		for step, ops := range [][]api.Op{
			opList(0, 4, 100, 4, 2, 104), opList(2, 1, 50), opList(8, 1, 7, 0, 1, 1), opList(4, 1, -1), opList(2, 1, 102, 4, 1, -1), opList(9, 1, 1, 7, 1, 1), opList(0, 10, -1),
		} {
			e := c.apply(ops)
			if e == api.OK {
				other.apply(ops)
			}
			if !Same(c.m, other.m) || !insideOf(c.m).equal(insideOf(other.m)) {
				t.Errorf("R3: %s: behind step %d: %v, %v", c.name, step, c.m.Runs(), other.m.Runs())
			}
		}
	}
}

// What was told ahead of an Apply stays as it was told.
func TestApplyLeavesAnswers(t *testing.T) {
	for _, c := range trials(t, 10, 5) {
		c.first(opList(0, 3, 10, 5, 2, 20))
		l := c.m.Runs()
		p, _ := c.m.Range(0, 10)
		c.apply(opList(1, 5, 7, 9, 1, 1))
		c.apply(opList(0, 10, 7, 9, 2, 1))
		if !slices.Equal(l, runList(0, 3, 10, 5, 2, 20)) || !slices.Equal(p, pieceList(0, 3, 10, 3, 2, -1, 5, 2, 20, 7, 3, -1)) {
			t.Errorf("R4: %s: %v, %v", c.name, l, p)
		}
		spoil(l, api.Run{Lba: 77, Len: 77, Phys: 77})
		c.wantSame("R4")
	}
}

// What is handed in is not kept: it may be changed behind the call.
func TestApplyKeepsNothing(t *testing.T) {
	for _, c := range trials(t, 10, 5) {
		ops := opList(0, 3, 10, 5, 2, 20)
		c.p.apply(ops)
		if e := Apply(c.m, ops); e != api.OK {
			t.Fatalf("P10.2: %s: %d", c.name, e)
		}
		spoil(ops, api.Op{Lba: 1, Len: 1, Phys: 77})
		c.wantSame("R4")
		c.apply(opList(4, 1, 1, 3, 1, 13))
	}
}
