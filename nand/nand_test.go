package nand

import (
	"bytes"
	"math"
	"testing"

	"ferrule/api"
)

// The signatures are fixed by chapter 2.
var (
	_ func(int, int) (*Nand, api.Errno)         = New
	_ func(int, int, []byte) (*Nand, api.Errno) = Load
	_ func(*Nand, int, []byte) api.Errno        = (*Nand).Program
	_ func(*Nand, int) api.Errno                = (*Nand).Erase
	_ func(*Nand, int) ([]byte, api.Errno)      = (*Nand).Read
	_ func(*Nand, int) (int, api.Errno)         = (*Nand).Next
	_ func(*Nand, int) (bool, api.Errno)        = (*Nand).Bad
	_ func(*Nand, int)                          = (*Nand).Cut
	_ func(*Nand, int)                          = (*Nand).Fail
	_ func(*Nand)                               = (*Nand).On
	_ func(*Nand) bool                          = (*Nand).Power
	_ func(*Nand) Stat                          = (*Nand).Stat
	_ func(*Nand) []byte                        = (*Nand).Image
	_ func(*Nand, int) (int, api.Errno)         = (*Nand).Wear
)

// wrongSizes are one past each limit, and numbers far from any.
var wrongSizes = [][2]int{
	{0, 1}, {1, 0}, {0, 0}, {65, 1}, {1, 33}, {65, 33}, {64, 33}, {65, 32}, {-1, 4}, {4, -1},
	{math.MinInt, 1}, {1, math.MinInt}, {math.MaxInt, 1}, {1, math.MaxInt}, {math.MaxInt, math.MaxInt}, {1 << 32, 4}, {4, 1 << 32},
}

// page is a page of bytes that are alike.
func page(x byte) []byte { return bytes.Repeat([]byte{x}, api.PageBytes) }

// mixed is a page whose bytes differ from chunk to chunk.
func mixed(seed int) []byte {
	b := make([]byte, api.PageBytes)
	for i := range b {
		b[i] = byte(seed*31 + i*7 + i/4)
	}
	return b
}

// partly is a page of which the first n bytes are of data, the others clean.
func partly(data []byte, n int) []byte {
	b := page(255)
	copy(b, data[:n])
	return b
}

// flash is a new one.
func flash(t *testing.T, blocks, pages int) *Nand {
	t.Helper()
	f, e := New(blocks, pages)
	if e != api.OK || f == nil {
		t.Fatalf("P2.1: New(%d, %d): %d", blocks, pages, e)
	}
	return f
}

// told is all that a flash tells without a step.
type told struct {
	image []byte
	stat  Stat
	power bool
	next  []int
	bad   []bool
	wear  []int
}

// tell asks a flash for all of it.
func tell(f *Nand, blocks int) told {
	w := told{image: f.Image(), stat: f.Stat(), power: f.Power()}
	for b := range blocks {
		n, _ := f.Next(b)
		bad, _ := f.Bad(b)
		wear, _ := f.Wear(b)
		w.next, w.bad, w.wear = append(w.next, n), append(w.bad, bad), append(w.wear, wear)
	}
	return w
}

// same tells whether two flashes told alike.
func (w told) same(v told) bool {
	if !bytes.Equal(w.image, v.image) || w.stat != v.stat || w.power != v.power {
		return false
	}
	for b := range w.next {
		if w.next[b] != v.next[b] || w.bad[b] != v.bad[b] || w.wear[b] != v.wear[b] {
			return false
		}
	}
	return true
}

// want holds an answer against what it should be.
func want(t *testing.T, what string, got, e api.Errno) {
	t.Helper()
	if got != e {
		t.Errorf("%s: %d, want %d", what, got, e)
	}
}

// wantPage holds a page's bytes against what they should be.
func wantPage(t *testing.T, what string, f *Nand, p int, data []byte) {
	t.Helper()
	b, e := f.Read(p)
	if e != api.OK || !bytes.Equal(b, data) {
		t.Errorf("%s: page %d: %v, %d; want %v", what, p, b, e, data)
	}
}

// wantBlock holds a block's next page and whether it is bad against what they should be.
func wantBlock(t *testing.T, what string, f *Nand, b, next int, bad bool) {
	t.Helper()
	if n, e := f.Next(b); n != next || e != api.OK {
		t.Errorf("%s: Next(%d): %d, %d; want %d", what, b, n, e, next)
	}
	if x, e := f.Bad(b); x != bad || e != api.OK {
		t.Errorf("%s: Bad(%d): %v, %d; want %v", what, b, x, e, bad)
	}
}

// wantMarks holds the last bytes of an image against what they should be.
func wantMarks(t *testing.T, what string, f *Nand, marks ...byte) {
	t.Helper()
	img := f.Image()
	if m := img[len(img)-len(marks):]; !bytes.Equal(m, marks) {
		t.Errorf("%s: an image's marks: %v, want %v", what, m, marks)
	}
}

func TestExampleOrder(t *testing.T) {
	f, d := flash(t, 2, 4), page(7)
	want(t, "Program(1)", f.Program(1, d), api.EORDER)
	want(t, "Program(0)", f.Program(0, d), api.OK)
	want(t, "Program(0) again", f.Program(0, d), api.EORDER)
	want(t, "Program(8)", f.Program(8, d), api.EARG)
	wantBlock(t, "behind them", f, 0, 1, false)
}

func TestExampleCut(t *testing.T) {
	f, d := flash(t, 2, 4), page(7)
	f.Cut(3)
	want(t, "Program(0)", f.Program(0, d), api.EOFF)
	if f.Power() {
		t.Error("P2.5: the power is on behind a cut")
	}
	b, e := f.Read(0)
	if len(b) != 0 || e != api.EOFF {
		t.Errorf("P2.4: Read(0), off: %v, %d", b, e)
	}
	f.On()
	wantPage(t, "behind the cut", f, 0, partly(d, 12))
	want(t, "then Program(0)", f.Program(0, d), api.EORDER)
	want(t, "then Program(1)", f.Program(1, d), api.OK)
}

func TestExampleFailure(t *testing.T) {
	f, d := flash(t, 2, 4), page(7)
	f.Fail(1)
	want(t, "Program(0)", f.Program(0, d), api.OK)
	want(t, "Program(1)", f.Program(1, d), api.EBAD)
	wantBlock(t, "behind the failure", f, 0, 2, true)
	want(t, "Program(2)", f.Program(2, d), api.EBAD)
	wantPage(t, "of the failure", f, 1, partly(d, 16))
}

func TestExampleTornBlock(t *testing.T) {
	f, d := flash(t, 2, 4), page(7)
	want(t, "Program(0)", f.Program(0, d), api.OK)
	f.Cut(1)
	want(t, "Erase(0)", f.Erase(0), api.EOFF)
	f.On()
	wantPage(t, "of a torn block", f, 0, page(0))
	want(t, "Program(0) of a torn block", f.Program(0, d), api.EORDER)
	want(t, "Erase(0) of a torn block", f.Erase(0), api.OK)
	want(t, "Program(0) of a clean one", f.Program(0, d), api.OK)
}

func TestNewRefuses(t *testing.T) {
	for _, c := range wrongSizes {
		if f, e := New(c[0], c[1]); f != nil || e != api.EARG {
			t.Errorf("P2.1: New(%d, %d): %v, %d", c[0], c[1], f, e)
		}
	}
}

func TestNewIsClean(t *testing.T) {
	for _, c := range [][2]int{{1, 1}, {1, 32}, {64, 1}, {64, 32}, {2, 4}} {
		blocks, pages := c[0], c[1]
		f := flash(t, blocks, pages)
		if !f.Power() || f.Stat() != (Stat{}) {
			t.Errorf("P2.1: New(%d, %d): power %v, %v", blocks, pages, f.Power(), f.Stat())
		}
		cells := bytes.Repeat([]byte{255}, blocks*pages*api.PageBytes)
		if !bytes.Equal(f.Image(), append(cells, make([]byte, 2*blocks)...)) {
			t.Errorf("P2.1, P2.5: New(%d, %d): its image is not a clean one's", blocks, pages)
		}
		for b := range blocks {
			wantBlock(t, "P2.1: a new flash", f, b, 0, false)
			if n, e := f.Wear(b); n != 0 || e != api.OK {
				t.Errorf("P2.1: Wear(%d) of a new flash: %d, %d", b, n, e)
			}
		}
		for p := range blocks * pages {
			wantPage(t, "P2.1: a new flash", f, p, page(255))
		}
	}
}

func TestNewHasNothingSet(t *testing.T) {
	f := flash(t, 64, 32)
	for round := range 2 {
		for p := range 64 * 32 {
			want(t, "P2.1: Program", f.Program(p, mixed(p+round)), api.OK)
		}
		for b := range 64 {
			want(t, "P2.1: Erase", f.Erase(b), api.OK)
		}
	}
	if s := f.Stat(); s != (Stat{Programs: 4096, Erases: 128}) {
		t.Errorf("P2.5: Stat: %v", s)
	}
}

func TestFlashesShareNothing(t *testing.T) {
	f, g := flash(t, 2, 4), flash(t, 2, 4)
	before := tell(g, 2)
	f.Fail(2)
	f.Program(0, page(7))
	f.Erase(0)
	f.Erase(1)
	f.Cut(0)
	f.Program(1, page(7))
	f.Program(0, page(7))
	if !tell(g, 2).same(before) || f.Power() {
		t.Error("R5: one flash hangs on what another was told")
	}
}

func TestProgramWritesInOrder(t *testing.T) {
	for _, c := range [][2]int{{1, 1}, {2, 4}, {64, 32}} {
		blocks, pages := c[0], c[1]
		f := flash(t, blocks, pages)
		for b := blocks - 1; b >= 0; b-- {
			for p := range pages {
				wantBlock(t, "P2.2: ahead of a program", f, b, p, false)
				if p+1 < pages {
					want(t, "P2.2: one page too far", f.Program(b*pages+p+1, page(1)), api.EORDER)
				}
				if p > 0 {
					want(t, "P2.2: a page begun before", f.Program(b*pages+p-1, page(1)), api.EORDER)
				}
				want(t, "P2.2: the next page", f.Program(b*pages+p, mixed(b*pages+p)), api.OK)
			}
			wantBlock(t, "P2.4: a full block", f, b, pages, false)
			want(t, "P2.2: the first page of a full block", f.Program(b*pages, page(1)), api.EORDER)
			want(t, "P2.2: the last page of a full block", f.Program(b*pages+pages-1, page(1)), api.EORDER)
		}
		for p := range blocks * pages {
			wantPage(t, "P2.2: what was written", f, p, mixed(p))
		}
	}
}

func TestProgramWritesAnyBytes(t *testing.T) {
	f := flash(t, 1, 4)
	for p, x := range []byte{255, 0, 254, 1} {
		want(t, "P2.2: a page of bytes alike", f.Program(p, page(x)), api.OK)
		wantPage(t, "P2.2: a page of bytes alike", f, p, page(x))
	}
	wantMarks(t, "P2.5: a page of clean bytes has been begun", f, 0, 4)
}

func TestProgramTouchesOnePage(t *testing.T) {
	f := flash(t, 3, 4)
	f.Program(4, mixed(4))
	f.Program(5, mixed(5))
	for p := range 12 {
		data := page(255)
		if p == 4 || p == 5 {
			data = mixed(p)
		}
		wantPage(t, "P2.2: the pages around", f, p, data)
	}
	wantBlock(t, "P2.2: the block ahead", f, 0, 0, false)
	wantBlock(t, "P2.2: the block behind", f, 2, 0, false)
}

// wrongPages are numbers of no page of a flash of 8 pages.
var wrongPages = []int{-1, -8, 8, 9, 68, 256, 1 << 32, math.MinInt, math.MaxInt}

// wrongBlocks are numbers of no block of a flash of 2 blocks.
var wrongBlocks = []int{-1, -2, 2, 3, 8, 256, 1 << 32, math.MinInt, math.MaxInt}

// wrongData are pages of wrong lengths.
func wrongData() [][]byte {
	return [][]byte{nil, {}, {7}, page(7)[:67], append(page(7), 7), append(page(7), page(7)...), page(7)[:64]}
}

// onBadOff is a flash of 2 blocks of 4 pages as each of the errors asks for:
// with the power on or off, its first block good, torn, bad, or bad and torn.
func onBadOff(t *testing.T, off, bad, torn bool) *Nand {
	t.Helper()
	f := flash(t, 2, 4)
	f.Program(0, mixed(1))
	switch {
	case bad && torn:
		f.Fail(0)
		f.Erase(0)
	case bad:
		f.Fail(0)
		f.Program(1, mixed(2))
	case torn:
		f.Cut(1)
		f.Erase(0)
		f.On()
	}
	if off {
		f.Cut(0)
		f.Erase(1)
	}
	if f.Power() == off {
		t.Fatal("P2.5: the power is not as it was made")
	}
	return f
}

// eachCondition goes through all of onBadOff's.
func eachCondition(t *testing.T, ask func(f *Nand, off, bad, torn bool)) {
	t.Helper()
	for i := range 8 {
		off, bad, torn := i&4 != 0, i&2 != 0, i&1 != 0
		ask(onBadOff(t, off, bad, torn), off, bad, torn)
	}
}

func TestProgramRefuses(t *testing.T) {
	eachCondition(t, func(f *Nand, off, bad, torn bool) {
		before := tell(f, 2)
		for _, p := range wrongPages {
			want(t, "P2.2: no such page", f.Program(p, page(7)), api.EARG)
			want(t, "P2.2: no such page, no data", f.Program(p, nil), api.EARG)
		}
		for _, d := range wrongData() {
			for p := range 8 {
				want(t, "P2.2: data of a wrong length", f.Program(p, d), api.EARG)
			}
		}
		inOrder, outOfOrder := api.OK, api.EORDER
		switch {
		case off:
			inOrder, outOfOrder = api.EOFF, api.EOFF
		case bad:
			inOrder, outOfOrder = api.EBAD, api.EBAD
		case torn:
			inOrder = api.EORDER
		}
		next, _ := f.Next(0)
		for p := range 4 {
			if p != next {
				want(t, "P2.2: a page out of order", f.Program(p, page(7)), outOfOrder)
			}
		}
		if inOrder != api.OK {
			want(t, "P2.2: the next page", f.Program(next, page(7)), inOrder)
		}
		if !tell(f, 2).same(before) {
			t.Errorf("R3: what is refused changes something: off %v, bad %v, torn %v", off, bad, torn)
		}
		if inOrder == api.OK {
			want(t, "P2.2: the next page", f.Program(next, page(7)), api.OK)
		}
	})
}

func TestEraseRefuses(t *testing.T) {
	eachCondition(t, func(f *Nand, off, bad, torn bool) {
		before := tell(f, 2)
		for _, b := range wrongBlocks {
			want(t, "P2.3: no such block", f.Erase(b), api.EARG)
		}
		e := api.OK
		switch {
		case off:
			e = api.EOFF
		case bad:
			e = api.EBAD
		}
		if e == api.OK && !tell(f, 2).same(before) {
			t.Error("R3: what is refused changes something")
		}
		want(t, "P2.3: Erase(0)", f.Erase(0), e)
		if e != api.OK && !tell(f, 2).same(before) {
			t.Errorf("R3: what is refused changes something: off %v, bad %v, torn %v", off, bad, torn)
		}
	})
}

func TestReadRefuses(t *testing.T) {
	eachCondition(t, func(f *Nand, off, bad, torn bool) {
		before := tell(f, 2)
		for _, p := range wrongPages {
			if b, e := f.Read(p); len(b) != 0 || e != api.EARG {
				t.Errorf("P2.4: Read(%d): %v, %d", p, b, e)
			}
		}
		if off {
			for p := range 8 {
				if b, e := f.Read(p); len(b) != 0 || e != api.EOFF {
					t.Errorf("P2.4: Read(%d), off: %v, %d", p, b, e)
				}
			}
		}
		if !tell(f, 2).same(before) {
			t.Error("R3, P2.5: a read that is refused is counted, or changes something")
		}
		f.On()
		reads := f.Stat().Reads
		for p := range 8 {
			if b, e := f.Read(p); len(b) != api.PageBytes || e != api.OK {
				t.Errorf("P2.4: Read(%d): %v, %d", p, b, e)
			}
			if n := f.Stat().Reads; n != reads+p+1 {
				t.Errorf("P2.4: Reads: %d", n)
			}
		}
	})
}

func TestNextBadWear(t *testing.T) {
	eachCondition(t, func(f *Nand, off, bad, torn bool) {
		before := tell(f, 2)
		for _, b := range wrongBlocks {
			if n, e := f.Next(b); n != 0 || e != api.EARG {
				t.Errorf("P2.4: Next(%d): %d, %d", b, n, e)
			}
			if x, e := f.Bad(b); x || e != api.EARG {
				t.Errorf("P2.4: Bad(%d): %v, %d", b, x, e)
			}
			if n, e := f.Wear(b); n != 0 || e != api.EARG {
				t.Errorf("P2.6: Wear(%d): %d, %d", b, n, e)
			}
		}
		next, wear := 1, 0
		if bad {
			next = 2
		}
		if torn {
			next, wear = 0, 1
		}
		wantBlock(t, "P2.4: as it was made", f, 0, next, bad)
		wantBlock(t, "P2.4: the last block", f, 1, 0, false)
		if n, e := f.Wear(0); n != wear || e != api.OK {
			t.Errorf("P2.6: Wear(0): %d, %d; want %d", n, e, wear)
		}
		if !tell(f, 2).same(before) {
			t.Error("P2.4: Next, Bad or Wear costs something")
		}
	})
}

func TestNothingRefusedIsAnOperationOrAStep(t *testing.T) {
	f := flash(t, 2, 4)
	f.Fail(0)
	f.Program(0, page(7))
	f.Program(4, mixed(4))
	f.Cut(1)
	f.Erase(1)
	f.On()
	f.Cut(2)
	f.Fail(1)
	for _, p := range wrongPages {
		f.Program(p, page(7))
		f.Read(p)
	}
	for _, d := range wrongData() {
		f.Program(4, d)
	}
	for _, b := range wrongBlocks {
		f.Erase(b)
	}
	want(t, "P2.7: a bad block", f.Erase(0), api.EBAD)
	want(t, "P2.7: a bad block", f.Program(1, page(7)), api.EBAD)
	want(t, "P2.7: a torn block", f.Program(4, page(7)), api.EORDER)
	wantPage(t, "P2.7: a read", f, 4, page(0))
	want(t, "P2.7: two steps and one operation are left", f.Erase(1), api.OK)
	if !f.Power() {
		t.Error("P2.7: the power is off ahead of the next step")
	}
	want(t, "P2.7: a page out of order", f.Program(5, page(7)), api.EORDER)
	want(t, "P2.7: no step is left", f.Program(4, page(7)), api.EOFF)
	f.On()
	f.Fail(0)
	want(t, "P2.7: a page out of order", f.Program(5, page(7)), api.EORDER)
	want(t, "P2.7: the operation that fails", f.Program(4, page(7)), api.EBAD)
}

func TestCutAheadOfEachStepOfAProgram(t *testing.T) {
	for k := range api.PageChunks + 2 {
		f := flash(t, 2, 4)
		f.Program(4, mixed(4))
		f.Cut(k)
		e, next := api.EOFF, 2
		if k >= api.PageChunks {
			e = api.OK
		}
		if k == 0 {
			next = 1
		}
		want(t, "P2.2: Program", f.Program(5, mixed(5)), e)
		if f.Power() != (e == api.OK) {
			t.Errorf("P2.2: the power behind %d steps: %v", k, f.Power())
		}
		wantBlock(t, "P2.2: behind a cut", f, 1, next, false)
		wantMarks(t, "P2.5: behind a cut", f, 0, 0, 0, byte(next))
		if s := f.Stat(); s != (Stat{Programs: 2}) {
			t.Errorf("P2.2: Stat behind %d steps: %v", k, s)
		}
		f.On()
		wantPage(t, "P2.2: the page that was cut", f, 5, partly(mixed(5), min(k, api.PageChunks)*api.ChunkBytes))
		wantPage(t, "P2.2: the page ahead", f, 4, mixed(4))
		wantPage(t, "P2.2: the page behind", f, 6, page(255))
		want(t, "P2.2: the next page", f.Program(4+next, mixed(6)), api.OK)
		wantPage(t, "P2.2: the next page", f, 4+next, mixed(6))
	}
}

func TestCutAheadOfEachStepOfAnErase(t *testing.T) {
	for k := range 4 {
		f := flash(t, 3, 4)
		for p := range 12 {
			f.Program(p, mixed(p))
		}
		f.Cut(k)
		e, next, marks := api.EOFF, 0, byte(0)
		data := func(p int) []byte { return page(255) }
		switch k {
		case 0:
			next, data = 4, mixed
		case 1:
			marks, data = 2, func(p int) []byte { return page(0) }
		default:
			e = api.OK
		}
		want(t, "P2.3: Erase", f.Erase(1), e)
		if f.Power() != (e == api.OK) {
			t.Errorf("P2.3: the power behind %d steps: %v", k, f.Power())
		}
		wantBlock(t, "P2.3: behind a cut", f, 1, next, false)
		wantMarks(t, "P2.5: behind a cut", f, 0, 4, marks, byte(next), 0, 4)
		if s := f.Stat(); s != (Stat{Programs: 12, Erases: 1}) {
			t.Errorf("P2.3: Stat behind %d steps: %v", k, s)
		}
		if n, _ := f.Wear(1); n != 1 {
			t.Errorf("P2.6: Wear behind %d steps: %d", k, n)
		}
		f.On()
		for p := range 12 {
			d := mixed(p)
			if p/4 == 1 {
				d = data(p)
			}
			wantPage(t, "P2.3: behind an erase", f, p, d)
		}
		want(t, "P2.3: another erase", f.Erase(1), api.OK)
		want(t, "P2.3: a clean block", f.Program(4, mixed(1)), api.OK)
	}
}

func TestEraseOfAnyBlockThatIsNotBad(t *testing.T) {
	f := flash(t, 2, 2)
	want(t, "P2.3: a clean block", f.Erase(1), api.OK)
	f.Program(2, page(7))
	want(t, "P2.3: a block in use", f.Erase(1), api.OK)
	f.Program(2, page(7))
	f.Program(3, page(7))
	want(t, "P2.3: a full block", f.Erase(1), api.OK)
	f.Cut(1)
	want(t, "P2.3: a cut", f.Erase(1), api.EOFF)
	f.On()
	f.Cut(0)
	want(t, "P2.3: a cut of a torn block", f.Erase(1), api.EOFF)
	f.On()
	wantMarks(t, "P2.3: still torn", f, 2, 0)
	f.Cut(1)
	want(t, "P2.3: a cut of a torn block", f.Erase(1), api.EOFF)
	f.On()
	wantMarks(t, "P2.3: torn again", f, 2, 0)
	want(t, "P2.3: a torn block", f.Erase(1), api.OK)
	wantMarks(t, "P2.3: clean", f, 0, 0)
	wantPage(t, "P2.3: clean", f, 2, page(255))
	wantPage(t, "P2.3: clean", f, 3, page(255))
	for b, wear := range []int{0, 7} {
		if n, e := f.Wear(b); n != wear || e != api.OK {
			t.Errorf("P2.6: Wear(%d): %d, %d; want %d", b, n, e, wear)
		}
	}
	if s := f.Stat(); s.Erases != 7 {
		t.Errorf("P2.5: Erases: %d", s.Erases)
	}
}

func TestFailingProgram(t *testing.T) {
	for k := -1; k < 7; k++ {
		f := flash(t, 2, 4)
		f.Program(4, mixed(4))
		f.Fail(0)
		f.Cut(k)
		e, next, bad, chunks := api.EBAD, 2, true, 4
		if k >= 0 && k < 4 {
			e, bad, chunks = api.EOFF, false, k
		}
		if k == 0 {
			next = 1
		}
		want(t, "P2.2: a failing program", f.Program(5, mixed(5)), e)
		if f.Power() != (e == api.EBAD) {
			t.Errorf("P2.2: the power behind a failure under a cut of %d: %v", k, f.Power())
		}
		wantBlock(t, "P2.2: behind a failure", f, 1, next, bad)
		wantBlock(t, "P2.2: another block", f, 0, 0, false)
		if s := f.Stat(); s != (Stat{Programs: 2}) {
			t.Errorf("P2.2: Stat behind a failure: %v", s)
		}
		if e == api.EBAD && k >= 0 {
			stepsLeft(t, f, k-4)
		}
		f.On()
		wantPage(t, "P2.2: the page that failed", f, 5, partly(mixed(5), chunks*api.ChunkBytes))
		wantPage(t, "P2.2: the page ahead", f, 4, mixed(4))
		if bad {
			want(t, "P2.2: a bad block", f.Program(6, page(7)), api.EBAD)
			want(t, "P2.3: a bad block", f.Erase(1), api.EBAD)
		} else {
			want(t, "P2.2: a failure that a cut ended is over", f.Program(4+next, page(7)), api.OK)
		}
	}
}

// stepsLeft holds how many steps are left till the cut against what they
// should be, by a block that is clean.
func stepsLeft(t *testing.T, f *Nand, left int) {
	t.Helper()
	switch left {
	case 1:
		want(t, "P2.7: one step left", f.Erase(0), api.EOFF)
		wantMarks(t, "P2.7: one step left", f, 2, 0, 1, 2)
	case 2:
		want(t, "P2.7: two steps left", f.Erase(0), api.OK)
	}
	if !f.Power() {
		return
	}
	before := f.Image()
	want(t, "P2.7: no step left", f.Program(0, page(9)), api.EOFF)
	if !bytes.Equal(f.Image(), before) {
		t.Error("P2.7: a step more than the cut has left")
	}
}

func TestFailingErase(t *testing.T) {
	for k := -1; k < 4; k++ {
		f := flash(t, 2, 4)
		f.Program(0, mixed(0))
		f.Program(4, mixed(4))
		f.Fail(0)
		f.Cut(k)
		if k == 0 {
			want(t, "P2.3: cut ahead of its first half", f.Erase(1), api.EOFF)
			wantBlock(t, "P2.3: nothing is bad", f, 1, 1, false)
			f.On()
			wantPage(t, "P2.3: nothing is erased", f, 4, mixed(4))
			want(t, "P2.3: a failure that a cut ended is over", f.Erase(1), api.OK)
			continue
		}
		want(t, "P2.3: a failing erase", f.Erase(1), api.EBAD)
		if !f.Power() {
			t.Error("P2.3: the power is off behind a failing erase's first half")
		}
		wantBlock(t, "P2.3: behind a failure", f, 1, 0, true)
		wantMarks(t, "P2.5: bad and torn", f, 0, 1, 3, 0)
		for p := 4; p < 8; p++ {
			wantPage(t, "P2.3: the first half was done", f, p, page(0))
		}
		wantPage(t, "P2.3: another block", f, 0, mixed(0))
		want(t, "P2.3: bad", f.Erase(1), api.EBAD)
		want(t, "P2.2: bad ahead of torn", f.Program(4, page(7)), api.EBAD)
		if n, _ := f.Wear(1); n != 1 || f.Stat().Erases != 1 {
			t.Errorf("P2.6: Wear behind a failure: %d, %v", n, f.Stat())
		}
		e := api.OK
		if k == 1 || k == 2 {
			e = api.EOFF
		}
		want(t, "P2.3: a failing erase has one step", f.Erase(0), e)
	}
}

func TestFailureCountsOperationsOfBothKinds(t *testing.T) {
	for k := range 6 {
		f := flash(t, 7, 2)
		f.Fail(k)
		for i := range 6 {
			e := api.OK
			if i == k {
				e = api.EBAD
			}
			if i%2 == 0 {
				want(t, "P2.5: Program", f.Program(2*i, page(7)), e)
			} else {
				want(t, "P2.5: Erase", f.Erase(i), e)
			}
			f.Read(2 * i)
			wantBlock(t, "P2.5: behind it", f, i, 1-i%2, i == k)
		}
		want(t, "P2.5: one failure is all", f.Program(12, page(7)), api.OK)
	}
}

func TestFailureCountsOperationsThatAreCut(t *testing.T) {
	f := flash(t, 2, 4)
	f.Fail(2)
	f.Cut(0)
	want(t, "P2.5: cut ahead of its first step", f.Program(0, page(7)), api.EOFF)
	f.On()
	f.Cut(1)
	want(t, "P2.5: cut on the way", f.Erase(0), api.EOFF)
	want(t, "P2.5: refused, off", f.Erase(0), api.EOFF)
	f.On()
	want(t, "P2.5: a failure stays through On", f.Program(4, page(7)), api.EBAD)
}

func TestCutGoesOnFromCallToCall(t *testing.T) {
	f := flash(t, 2, 4)
	f.Cut(17 + 2 + 17 + 3)
	want(t, "P2.5: Program", f.Program(0, mixed(0)), api.OK)
	want(t, "P2.5: Erase", f.Erase(0), api.OK)
	want(t, "P2.5: Program", f.Program(4, mixed(4)), api.OK)
	want(t, "P2.5: the step that is cut", f.Program(5, mixed(5)), api.EOFF)
	f.On()
	wantPage(t, "P2.5: three chunks", f, 5, partly(mixed(5), 12))
	want(t, "P2.5: one cut is all", f.Program(6, mixed(6)), api.OK)
	if !f.Power() {
		t.Error("P2.5: the power is off without a cut")
	}
}

func TestCutIsSetAnewAndTakenAway(t *testing.T) {
	f := flash(t, 2, 4)
	f.Cut(0)
	f.Cut(17)
	want(t, "P2.5: set anew", f.Program(0, page(7)), api.OK)
	f.Cut(0)
	f.On()
	want(t, "P2.5: On takes a cut away", f.Program(1, page(7)), api.OK)
	for _, k := range []int{-1, -2, -17, math.MinInt} {
		f.Cut(0)
		f.Cut(k)
		want(t, "P2.5: taken away", f.Erase(0), api.OK)
	}
	f.Cut(math.MaxInt)
	want(t, "P2.5: far away", f.Erase(0), api.OK)
	f.Cut(0)
	f.Erase(0)
	f.Cut(5)
	if f.Power() {
		t.Error("P2.5: Cut turns the power on")
	}
	want(t, "P2.5: still off", f.Erase(0), api.EOFF)
	f.Cut(-1)
	want(t, "P2.5: still off", f.Erase(0), api.EOFF)
	f.Cut(0)
	f.On()
	want(t, "P2.5: On takes away what was set while it was off", f.Erase(0), api.OK)
}

func TestFailIsSetAnewAndTakenAway(t *testing.T) {
	f := flash(t, 3, 4)
	f.Fail(0)
	f.Fail(1)
	want(t, "P2.5: set anew", f.Program(0, page(7)), api.OK)
	for _, k := range []int{-1, -2, -17, math.MinInt} {
		f.Fail(0)
		f.Fail(k)
		want(t, "P2.5: taken away", f.Erase(0), api.OK)
		want(t, "P2.5: taken away", f.Erase(1), api.OK)
	}
	f.Fail(math.MaxInt)
	want(t, "P2.5: far away", f.Erase(0), api.OK)
	f.Cut(0)
	f.Erase(0)
	f.Fail(0)
	f.On()
	want(t, "P2.5: set while it was off", f.Erase(2), api.EBAD)
	want(t, "P2.5: one failure is all", f.Erase(1), api.OK)
	f.Fail(0)
	want(t, "P2.5: another one", f.Erase(1), api.EBAD)
}

func TestOnWhileOn(t *testing.T) {
	f := flash(t, 2, 4)
	f.Program(0, page(7))
	before := tell(f, 2)
	f.On()
	f.On()
	if !tell(f, 2).same(before) || !f.Power() {
		t.Error("P2.5: On changes more than the power and the cut")
	}
}

func TestStatCountsWhatWasBegun(t *testing.T) {
	f := flash(t, 3, 4)
	hold := func(what string, s Stat) {
		t.Helper()
		if f.Stat() != s {
			t.Errorf("P2.5: Stat, %s: %v, want %v", what, f.Stat(), s)
		}
	}
	f.Program(0, page(7))
	f.Erase(1)
	f.Read(0)
	f.Read(11)
	hold("ordinary calls", Stat{2, 1, 1})
	f.Fail(0)
	f.Program(1, page(7))
	hold("a failing program", Stat{2, 2, 1})
	f.Fail(0)
	f.Erase(1)
	hold("a failing erase", Stat{2, 2, 2})
	f.Read(4)
	hold("a read of a bad block", Stat{3, 2, 2})
	f.Cut(0)
	f.Program(8, page(7))
	hold("a program without a step", Stat{3, 3, 2})
	f.On()
	f.Cut(0)
	f.Erase(2)
	hold("an erase without a step", Stat{3, 3, 3})
	f.Program(8, page(7))
	f.Erase(2)
	f.Read(8)
	hold("refused, off", Stat{3, 3, 3})
	f.Image()
	f.Next(0)
	f.Bad(0)
	f.Wear(0)
	f.On()
	hold("what costs nothing", Stat{3, 3, 3})
}

func TestImageTellsAll(t *testing.T) {
	f := eachKind(t)
	cells := []byte{}
	for _, d := range [][]byte{
		page(255), page(255), page(255),
		mixed(3), partly(mixed(4), 20), page(255),
		page(0), page(0), page(0),
		mixed(9), partly(mixed(10), 16), page(255),
		page(0), page(0), page(0),
		mixed(15), mixed(16), mixed(17),
	} {
		cells = append(cells, d...)
	}
	img := append(cells, 0, 0, 0, 2, 2, 0, 1, 2, 3, 0, 0, 3)
	if !bytes.Equal(f.Image(), img) {
		t.Error("P2.5: Image of each kind of block")
	}
	f.Cut(0)
	f.Erase(0)
	if f.Power() || !bytes.Equal(f.Image(), img) {
		t.Error("P2.5: Image with the power off")
	}
}

// eachKind is a flash of 6 blocks of 3 pages: clean, in use, torn, bad, bad
// and torn, full.
func eachKind(t *testing.T) *Nand {
	t.Helper()
	f := flash(t, 6, 3)
	f.Program(3, mixed(3))
	f.Cut(5)
	f.Program(4, mixed(4))
	f.On()
	f.Program(6, mixed(6))
	f.Cut(1)
	f.Erase(2)
	f.On()
	f.Fail(1)
	f.Program(9, mixed(9))
	f.Program(10, mixed(10))
	f.Fail(0)
	f.Erase(4)
	for p := 15; p < 18; p++ {
		f.Program(p, mixed(p))
	}
	return f
}

func TestWear(t *testing.T) {
	f := flash(t, 64, 1)
	for b := range 64 {
		for range b {
			f.Erase(b)
		}
	}
	for b := range 64 {
		if n, e := f.Wear(b); n != b || e != api.OK {
			t.Errorf("P2.6: Wear(%d): %d, %d", b, n, e)
		}
	}
	f.Cut(0)
	f.Erase(63)
	if n, e := f.Wear(63); n != 64 || e != api.OK {
		t.Errorf("P2.6: Wear, off, of an erase without a step: %d, %d", n, e)
	}
	f.Erase(63)
	if n, _ := f.Wear(63); n != 64 {
		t.Errorf("P2.6: Wear of an erase that was refused: %d", n)
	}
}

func TestLoadEachKindOfBlock(t *testing.T) {
	f := eachKind(t)
	f.Fail(1)
	f.Cut(1)
	img := f.Image()
	g, e := Load(6, 3, img)
	if e != api.OK || g == nil {
		t.Fatalf("P2.6: Load: %d", e)
	}
	if !bytes.Equal(g.Image(), img) || !g.Power() || g.Stat() != (Stat{}) {
		t.Error("P2.6: what was loaded is not so")
	}
	for b, c := range []struct {
		next     int
		bad      bool
		program  api.Errno
		eraseErr api.Errno
	}{{0, false, api.OK, api.OK}, {2, false, api.OK, api.OK}, {0, false, api.EORDER, api.OK}, {2, true, api.EBAD, api.EBAD}, {0, true, api.EBAD, api.EBAD}, {3, false, api.EORDER, api.OK}} {
		wantBlock(t, "P2.6: what was loaded", g, b, c.next, c.bad)
		if n, e := g.Wear(b); n != 0 || e != api.OK {
			t.Errorf("P2.6: Wear(%d) of what was loaded: %d, %d", b, n, e)
		}
		for p := 3 * b; p < 3*b+3; p++ {
			wantPage(t, "P2.6: what was loaded", g, p, img[p*api.PageBytes:(p+1)*api.PageBytes])
		}
		want(t, "P2.6: Program", g.Program(3*b+min(c.next, 2), page(7)), c.program)
		want(t, "P2.6: Erase", g.Erase(b), c.eraseErr)
	}
	if g.Stat() != (Stat{Reads: 18, Programs: 2, Erases: 4}) {
		t.Errorf("P2.6: Stat: %v", g.Stat())
	}
}

func TestLoadFromAFlashThatIsOff(t *testing.T) {
	f := flash(t, 1, 2)
	f.Cut(1)
	f.Program(0, page(7))
	g, e := Load(1, 2, f.Image())
	if e != api.OK || !g.Power() || f.Power() {
		t.Fatalf("P2.6: Load: %d", e)
	}
	wantPage(t, "P2.6: one chunk", g, 0, partly(page(7), 4))
	want(t, "P2.6: the next page", g.Program(1, page(7)), api.OK)
	before := f.Image()
	g.Erase(0)
	if !bytes.Equal(f.Image(), before) {
		t.Error("R5: a loaded flash shares memory with the one it is of")
	}
}

func TestLoadOfTheLeastAndTheGreatest(t *testing.T) {
	for _, c := range [][2]int{{1, 1}, {64, 32}} {
		f := flash(t, c[0], c[1])
		f.Program(0, page(7))
		f.Program(c[0]*c[1]-c[1], page(8))
		g, e := Load(c[0], c[1], f.Image())
		if e != api.OK || !bytes.Equal(g.Image(), f.Image()) {
			t.Errorf("P2.6: Load of %d by %d: %d", c[0], c[1], e)
		}
	}
}

func TestLoadRefusesSizes(t *testing.T) {
	f := flash(t, 1, 1)
	for _, c := range wrongSizes {
		for _, img := range [][]byte{nil, f.Image(), make([]byte, 2)} {
			if g, e := Load(c[0], c[1], img); g != nil || e != api.EARG {
				t.Errorf("P2.6: Load(%d, %d): %v, %d", c[0], c[1], g, e)
			}
		}
	}
}

func TestLoadRefusesForms(t *testing.T) {
	img := eachKind(t).Image()
	end := 18 * api.PageBytes
	put := func(pairs ...int) []byte {
		b := bytes.Clone(img)
		for i := 0; i < len(pairs); i += 2 {
			b[pairs[i]] = byte(pairs[i+1])
		}
		return b
	}
	for _, c := range []struct {
		why string
		img []byte
		e   api.Errno
	}{
		{"as it is", img, api.OK},
		{"nothing", nil, api.EFORM},
		{"a byte less", img[:len(img)-1], api.EFORM},
		{"a byte less ahead", img[1:], api.EFORM},
		{"a byte more", append(bytes.Clone(img), 0), api.EFORM},
		{"the cells alone", img[:end], api.EFORM},
		{"a first byte of 4", put(end, 4), api.EFORM},
		{"a first byte of 255", put(end, 255), api.EFORM},
		{"a first byte of 4, the last block's", put(end+10, 4), api.EFORM},
		{"a first byte of 6 of a torn one", put(end+4, 6), api.EFORM},
		{"a second byte past the pages", put(end+11, 4), api.EFORM},
		{"a second byte of 255", put(end+11, 255), api.EFORM},
		{"a torn block's second byte of 1", put(end+5, 1), api.EFORM},
		{"a torn block's second byte past the pages", put(end+5, 4), api.EFORM},
		{"a bad and torn block's second byte of 1", put(end+9, 1), api.EFORM},
		{"a torn block's first byte of 1", put(6*api.PageBytes, 1), api.EFORM},
		{"a torn block's last byte of 255", put(9*api.PageBytes-1, 255), api.EFORM},
		{"a bad and torn block's byte of 1", put(13*api.PageBytes, 1), api.EFORM},
		{"a clean block that is told as torn", put(end, 2), api.EFORM},
		{"a torn block that is told as clean", put(end+4, 0), api.EFORM},
		{"a torn block that is told as bad", put(end+4, 1), api.EFORM},
		{"a byte of the next page", put(5*api.PageBytes, 254), api.EFORM},
		{"the last byte of the last page", put(6*api.PageBytes-1, 0), api.EFORM},
		{"the last byte of a clean block", put(3*api.PageBytes-1, 0), api.EFORM},
		{"a byte of a bad block's next page", put(11*api.PageBytes, 0), api.EFORM},
		{"a page less than was begun", put(end+3, 1), api.EFORM},
		{"no page of a full block begun", put(end+11, 0), api.EFORM},
		{"a clean page that is told as begun", put(end+1, 1), api.OK},
		{"all clean pages told as begun", put(end+1, 3), api.OK},
		{"another byte of a page that was begun", put(3*api.PageBytes, 99, 5*api.PageBytes-1, 99), api.OK},
		{"a torn block that is told as begun", put(end+4, 0, end+5, 3), api.OK},
		{"a torn block that is told as bad, too", put(end+4, 3), api.OK},
		{"a bad block that is told as good", put(end+6, 0), api.OK},
		{"a full block that is told as bad", put(end+10, 1), api.OK},
		{"a clean block that is told as bad", put(end, 1), api.OK},
	} {
		g, e := Load(6, 3, c.img)
		if e != c.e || (g == nil) != (e != api.OK) {
			t.Errorf("P2.6: Load of %s: %d, want %d", c.why, e, c.e)
		}
		if e == api.OK && g != nil && !bytes.Equal(g.Image(), c.img) {
			t.Errorf("P2.6: Load of %s: its image is another", c.why)
		}
	}
	for _, c := range [][2]int{{3, 6}, {5, 3}, {7, 3}, {6, 2}, {6, 4}, {9, 2}, {18, 1}} {
		if g, e := Load(c[0], c[1], img); g != nil || e != api.EFORM {
			t.Errorf("P2.6: Load of another size: %v, %d", g, e)
		}
	}
}

func TestListsHandedInStay(t *testing.T) {
	room := append(append(page(1), page(7)...), page(2)...)
	before := bytes.Clone(room)
	data := room[api.PageBytes : 2*api.PageBytes]
	f := flash(t, 2, 4)
	f.Program(0, data)
	f.Cut(3)
	f.Program(1, data)
	f.On()
	f.Fail(0)
	f.Program(2, data)
	f.Erase(1)
	if !bytes.Equal(room, before) {
		t.Error("R4: Program changes its data, or their spare room")
	}
	for i := range room {
		room[i] = 99
	}
	wantPage(t, "R4: Program keeps its data", f, 0, page(7))
	img := f.Image()
	room = append(append(page(1), img...), page(2)...)
	before = bytes.Clone(room)
	g, e := Load(2, 4, room[api.PageBytes:api.PageBytes+len(img)])
	if e != api.OK {
		t.Fatalf("P2.6: Load: %d", e)
	}
	g.Erase(1)
	g.Program(4, page(3))
	if !bytes.Equal(room, before) {
		t.Error("R4: Load changes its image, or its spare room")
	}
	told := g.Image()
	for i := range room {
		room[i] = 99
	}
	if !bytes.Equal(g.Image(), told) {
		t.Error("R4: Load keeps its image")
	}
}

func TestListsAnsweredAreNew(t *testing.T) {
	f := eachKind(t)
	spoil := func(b []byte) {
		b = b[:cap(b)]
		for i := range b {
			b[i] ^= 85
		}
	}
	img := f.Image()
	for p := range 18 {
		a, _ := f.Read(p)
		b, _ := f.Read(p)
		spoil(a)
		if !bytes.Equal(b, img[p*api.PageBytes:(p+1)*api.PageBytes]) {
			t.Errorf("R4: two answers of Read(%d) share memory", p)
		}
	}
	if !bytes.Equal(f.Image(), img) {
		t.Error("R4: Read answers the flash's own memory")
	}
	kept := bytes.Clone(img)
	spoil(img)
	if !bytes.Equal(f.Image(), kept) {
		t.Error("R4: Image answers the flash's own memory")
	}
	a, _ := f.Read(3)
	kept = bytes.Clone(a)
	f.Erase(1)
	f.Program(3, page(1))
	if !bytes.Equal(a, kept) {
		t.Error("R4: what was read changes with the flash")
	}
}
