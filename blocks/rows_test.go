package blocks

import (
	"cmp"
	"slices"
	"testing"

	"ferrule/api"
)

// wantTogether asks for P13.4, and for what makes Split what it is: each part
// lies within one block, they are in order, together they are the runs, and no
// two parts of one run could be one within a block.
func wantTogether(t *testing.T, name string, l []api.Run, pages int) {
	t.Helper()
	parts, e := Split(l, pages)
	if e != api.OK {
		t.Fatalf("P13.3: %s: Split(%v, %d): %d", name, l, pages, e)
	}
	wantParts(t, name, l, parts, pages)
	var moves []api.Run
	sums := make([]int, 64)
	for b := range sums {
		m, e := Moves(l, b, pages)
		if e != api.OK || !slices.IsSortedFunc(m, byLba) {
			t.Errorf("P13.3: %s: Moves(%v, %d, %d): %v, %d", name, l, b, pages, m, e)
		}
		for _, r := range m {
			sums[b] += r.Len
			if r.Phys < b*pages || r.Phys+r.Len > (b+1)*pages {
				t.Errorf("P13.3: %s: Moves(%v, %d, %d): %v is not the block's", name, l, b, pages, r)
			}
		}
		moves = append(moves, m...)
	}
	slices.SortFunc(moves, byLba)
	onFlash := slices.DeleteFunc(slices.Clone(parts), func(r api.Run) bool { return r.Phys >= 64*pages })
	if !slices.Equal(moves, onFlash) {
		t.Errorf("P13.4: %s: all Moves of %v, blocks of %d: %v; want %v", name, l, pages, moves, onFlash)
	}
	if len(onFlash) < len(parts) {
		return
	}
	for blocks := blocksOf(l, pages); blocks <= 64; blocks++ {
		valid, e := Valid(l, blocks, pages)
		if e != api.OK || !slices.Equal(valid, sums[:blocks]) {
			t.Errorf("P13.4: %s: Valid(%v, %d, %d): %v, %d; want %v", name, l, blocks, pages, valid, e, sums[:blocks])
		}
	}
}

func byLba(a, b api.Run) int { return cmp.Compare(a.Lba, b.Lba) }

// blocksOf tells how many blocks the pages of runs ask for.
func blocksOf(l []api.Run, pages int) int {
	n := 1
	for _, r := range l {
		n = max(n, (r.Phys+r.Len+pages-1)/pages)
	}
	return n
}

// wantParts asks for what Split's parts are among themselves.
func wantParts(t *testing.T, name string, l, parts []api.Run, pages int) {
	t.Helper()
	rest := parts
	for _, r := range l {
		at := api.Run{Lba: r.Lba, Phys: r.Phys}
		for at.Lba < r.Lba+r.Len {
			if len(rest) == 0 || rest[0].Lba != at.Lba || rest[0].Phys != at.Phys || rest[0].Len < 1 {
				t.Fatalf("P13.3: %s: Split(%v, %d): %v: at %d they are not the runs", name, l, pages, parts, at.Lba)
			}
			at = api.Run{Lba: at.Lba + rest[0].Len, Phys: at.Phys + rest[0].Len}
			if rest[0].Phys/pages != (at.Phys-1)/pages {
				t.Errorf("P13.3: %s: Split(%v, %d): %v lies in two blocks", name, l, pages, rest[0])
			}
			if at.Lba < r.Lba+r.Len && at.Phys%pages != 0 {
				t.Errorf("P13.3: %s: Split(%v, %d): %v ends ahead of its block", name, l, pages, rest[0])
			}
			rest = rest[1:]
		}
		if at.Lba != r.Lba+r.Len {
			t.Errorf("P13.3: %s: Split(%v, %d): %v: they go beyond %v", name, l, pages, parts, r)
		}
	}
	if len(rest) > 0 {
		t.Errorf("P13.3: %s: Split(%v, %d): %v: too many", name, l, pages, parts)
	}
}

// wantEach asks each call for runs, and tells whether Split and Valid answered.
func wantEach(t *testing.T, name string, l []api.Run) (bool, bool) {
	t.Helper()
	split, valid := wantSplit(t, name, l, 32), wantValid(t, name, l, 64, 32)
	for _, pages := range []int{1, 4, 32} {
		if wantSplit(t, name, l, pages) != split {
			t.Fatalf("%s: the plain form tells otherwise with %d pages", name, pages)
		}
		for _, b := range []int{0, 1, 63} {
			wantMoves(t, name, l, b, pages)
		}
		wantValid(t, name, l, 64, pages)
		wantValid(t, name, l, 3, pages)
		if split {
			wantTogether(t, name, l, pages)
		}
	}
	return split, valid
}

// Runs that are not in their one form, in each way by itself: beside each list
// stands the same one without the fault.
func TestForm(t *testing.T) {
	for _, k := range []struct {
		name         string
		wrong, right []api.Run
	}{
		{"no page", runList(0, 0, 0), runList(0, 1, 0)},
		{"no page, in a hole", runList(0, 1, 0, 3, 0, 5, 7, 1, 9), runList(0, 1, 0, 3, 1, 5, 7, 1, 9)},
		{"no page, where the next one begins", runList(0, 1, 0, 3, 0, 5, 3, 1, 9), runList(0, 1, 0, 3, 1, 5, 4, 1, 9)},
		{"less than no page", runList(5, -1, 5), runList(5, 1, 5)},
		{"less than no page, the last", runList(0, 1, 0, 9, -4, 5), runList(0, 1, 0, 9, 4, 5)},
		{"a page below 0", runList(0, 2, -1), runList(0, 2, 0)},
		{"a page below 0, the last", runList(0, 2, 7, 5, 2, -1), runList(0, 2, 7, 5, 2, 0)},
		{"a page far below 0", runList(0, 100, -50), runList(0, 100, 50)},
		{"a sector below 0", runList(-1, 1, 7), runList(1, 1, 7)},
		{"a sector below 0, a run up to 1", runList(-1, 2, 7, 3, 1, 9), runList(0, 2, 7, 3, 1, 9)},
		{"they overlap by one", runList(0, 3, 7, 2, 2, 17), runList(0, 3, 7, 3, 2, 17)},
		{"they overlap by one, the same page", runList(0, 3, 7, 2, 2, 9), runList(0, 3, 7, 4, 2, 9)},
		{"one within the other", runList(0, 9, 7, 2, 2, 40), runList(0, 2, 7, 2, 2, 40)},
		{"from the same sector on", runList(3, 2, 7, 3, 4, 40), runList(3, 2, 7, 5, 4, 40)},
		{"the same twice", runList(3, 2, 7, 3, 2, 7), runList(3, 2, 7, 6, 2, 7)},
		{"the third overlaps the second", runList(0, 1, 1, 4, 4, 9, 7, 1, 3), runList(0, 1, 1, 4, 4, 9, 8, 1, 3)},
		{"one ahead of the first", runList(5, 1, 0, 2, 1, 9), runList(2, 1, 9, 5, 1, 0)},
		{"one just ahead of the first", runList(5, 1, 0, 4, 1, 9), runList(4, 1, 9, 5, 1, 0)},
		{"the third ahead of the second", runList(0, 1, 5, 8, 1, 0, 6, 2, 9), runList(0, 1, 5, 6, 2, 9, 8, 1, 0)},
		{"two that ought to be one", runList(0, 2, 10, 2, 1, 12), runList(0, 2, 10, 2, 1, 13)},
		{"two that ought to be one, from 0 on", runList(0, 1, 0, 1, 1, 1), runList(0, 1, 0, 1, 1, 0)},
		{"two that ought to be one, at a block's end", runList(0, 2, 30, 2, 2, 32), runList(0, 2, 30, 2, 2, 31)},
		{"the last two ought to be one", runList(0, 1, 3, 5, 2, 10, 7, 1, 12), runList(0, 1, 3, 5, 2, 10, 8, 1, 12)},
	} {
		if split, valid := wantEach(t, k.name, k.wrong); split || valid {
			t.Fatalf("%s: the plain form takes %v", k.name, k.wrong)
		}
		if split, valid := wantEach(t, "not "+k.name, k.right); !split || !valid {
			t.Fatalf("not %s: the plain form does not take %v", k.name, k.right)
		}
	}
}

// A number that may not be, at each place of a list that is right.
func TestFormEnds(t *testing.T) {
	l := runList(3, 4, 20, 7, 2, 7, 12, 1, 9)
	if split, valid := wantEach(t, "as it is", l); !split || !valid {
		t.Fatalf("the plain form does not take %v", l)
	}
	for _, v := range ends {
		for i := range l {
			for name, changed := range map[string]api.Run{
				"Lba":  {Lba: v, Len: l[i].Len, Phys: l[i].Phys},
				"Len":  {Lba: l[i].Lba, Len: v, Phys: l[i].Phys},
				"Phys": {Lba: l[i].Lba, Len: l[i].Len, Phys: v},
				"all":  {Lba: v, Len: v, Phys: v},
				"both": {Lba: v, Len: v, Phys: l[i].Phys},
				"each": {Lba: l[i].Lba, Len: v, Phys: v},
			} {
				wrong := slices.Clone(l)
				wrong[i] = changed
				for _, m := range [][]api.Run{wrong, wrong[:i+1], wrong[i:], wrong[i : i+1]} {
					if split, valid := wantEach(t, name, m); split || valid {
						t.Fatalf("%s: the plain form takes %v", name, m)
					}
				}
			}
		}
	}
	// Sums that come back to small numbers, if nothing bounds them.
	for _, wrong := range [][]api.Run{
		runList(1<<62, 1<<62, 0), runList(1<<62, 1<<62, 1<<62), runList(0, 1<<62, 1<<62), runList(1, 1<<63-1, 5), runList(1<<63-1, 2, 5),
		runList(1<<63-1, 1<<63-1, 1<<63-1), runList(0, 1<<63-1, 1), runList(0, 2, 1<<63-1), runList(0, 512, 1<<63-512), runList(2, -1<<63, 2),
		runList(0, 2, 1<<63-1, 2, 1, -1<<63+1), runList(0, 1, 1<<63-1, 1, 1, -1<<63), runList(5, 1, 5, 1<<63-1, 9, 9), runList(1<<63-1, 9, 9, 5, 1, 5),
	} {
		if split, valid := wantEach(t, "a sum", wrong); split || valid {
			t.Fatalf("the plain form takes %v", wrong)
		}
	}
}

// single are n runs of one sector each, from a sector on; no two of them could be one.
func single(n, from int) []api.Run {
	var l []api.Run
	for i := range n {
		l = append(l, api.Run{Lba: from + i, Len: 1, Phys: 2 * (i % 1000)})
	}
	return l
}

// As many runs as may be, and as many sectors, and one more.
func TestLimits(t *testing.T) {
	for _, k := range []struct {
		name string
		l    []api.Run
		want bool
	}{
		{"511 runs", single(511, 0), true},
		{"512 runs", single(512, 0), true},
		{"513 runs", single(513, 0), false},
		{"512 runs, from 1 on", single(512, 1), false},
		{"511 runs, from 1 on", single(511, 1), true},
		{"513 runs, one of them ahead of all", append(single(512, 0), single(1, 0)...), false},
		{"1024 runs", single(1024, 0), false},
		{"100000 runs", single(100000, 0), false},
		{"a run that ends at 512", runList(500, 12, 3), true},
		{"a run that ends at 513", runList(500, 13, 3), false},
		{"a run of all sectors", runList(0, 512, 3), true},
		{"a run of one sector more", runList(0, 513, 3), false},
		{"a run of all sectors, one farther", runList(1, 512, 3), false},
		{"a run of all sectors but one", runList(1, 511, 3), true},
		{"a run in the last sector", runList(511, 1, 3), true},
		{"a run behind it", runList(512, 1, 3), false},
		{"a run far behind it", runList(1000, 1, 3), false},
		{"the second ends at 512", runList(0, 1, 9, 2, 510, 3), true},
		{"the second ends at 513", runList(0, 1, 9, 2, 511, 3), false},
		{"the second stands behind 512", runList(0, 1, 9, 513, 1, 3), false},
	} {
		if split, valid := wantEach(t, k.name, k.l); split != k.want || valid != k.want {
			t.Fatalf("%s: the plain form tells otherwise", k.name)
		}
	}
}

// Where a run stands among blocks: within one, up to its end, over one end, over several.
func TestEachPlace(t *testing.T) {
	for pages := 1; pages <= 32; pages++ {
		for _, from := range []int{0, 1, pages - 1, pages, pages + 1, 3*pages - 1} {
			for _, n := range []int{1, 2, pages - 1, pages, pages + 1, 2*pages - 1, 2 * pages, 2*pages + 1, 7 * pages} {
				if n < 1 {
					continue
				}
				l := runList(0, n, from, n, n, from)
				wantSplit(t, "place", l, pages)
				wantTogether(t, "place", l, pages)
				for b := range 12 {
					wantMoves(t, "place", l, b, pages)
				}
				for blocks := 1; blocks <= 12; blocks++ {
					wantValid(t, "place", l, blocks, pages)
				}
			}
		}
	}
}

// Each run of few sectors and pages, and each two of them: many are not in their form.
func TestEverySmallRow(t *testing.T) {
	var each []api.Run
	for lba := range 4 {
		for n := range 4 {
			for phys := range 6 {
				each = append(each, api.Run{Lba: lba, Len: n, Phys: phys - 1})
			}
		}
	}
	taken, refused := 0, 0
	for _, a := range each {
		for _, b := range each {
			l := []api.Run{a, b}
			for pages := 1; pages <= 4; pages++ {
				wantSplit(t, "small", l, pages)
				wantMoves(t, "small", l, 1, pages)
				for blocks := 1; blocks <= 3; blocks++ {
					if wantValid(t, "small", l, blocks, pages) {
						taken++
					} else {
						refused++
					}
				}
			}
		}
	}
	if taken < 3000 || refused < 3000 {
		t.Errorf("%d were taken, %d refused", taken, refused)
	}
}

// dice hands out numbers that hang on a seed alone.
type dice uint64

func (d *dice) roll(n int) int {
	*d = *d*6364136223846793005 + 1442695040888963407
	return int(uint64(*d)>>33) % n
}

// runs tells any runs in their form, at most n, up to a page.
func (d *dice) runs(n, most int) []api.Run {
	var l []api.Run
	at, page := 0, -1
	for len(l) < n {
		r := api.Run{Lba: at, Len: 1 + d.roll(1+d.roll(1+1024/n)), Phys: d.roll(1 + d.roll(most))}
		switch d.roll(4) {
		case 0:
			r.Lba += d.roll(1 + 512/n)
		case 1:
			r.Phys = max(0, page+d.roll(7)-3)
		}
		if r.Lba+r.Len > 512 {
			break
		}
		if r.Phys+r.Len > most || len(l) > 0 && r.Lba == at && r.Phys == page {
			at++
			continue
		}
		l = append(l, r)
		at, page = r.Lba+r.Len, r.Phys+r.Len
	}
	return l
}

// Any runs on any flash.
func TestManyRows(t *testing.T) {
	d := dice(13)
	for range 1500 {
		blocks, pages := 1+d.roll(64), 1+d.roll(32)
		l := d.runs(1+d.roll(1+d.roll(512)), blocks*pages)
		if !wantValid(t, "many", l, blocks, pages) || !wantSplit(t, "many", l, pages) {
			t.Fatalf("the plain form does not take %v", l)
		}
		wantValid(t, "many, on a smaller flash", l, 1+d.roll(blocks), pages)
		wantMoves(t, "many", l, d.roll(blocks), pages)
		wantTogether(t, "many", l, pages)
	}
}

// One number of any runs is another.
func TestManyChanges(t *testing.T) {
	d := dice(14)
	taken, refused := 0, 0
	for range 40000 {
		blocks, pages := 1+d.roll(64), 1+d.roll(32)
		l := d.runs(1+d.roll(12), blocks*pages)
		if len(l) == 0 {
			continue
		}
		r := &l[d.roll(len(l))]
		field := []*int{&r.Lba, &r.Len, &r.Phys}[d.roll(3)]
		if d.roll(8) == 0 {
			*field = ends[d.roll(len(ends))]
		} else {
			*field += d.roll(5) - 2
		}
		wantSplit(t, "changed", l, pages)
		wantMoves(t, "changed", l, d.roll(66)-1, pages)
		if wantValid(t, "changed", l, blocks, pages) {
			taken++
		} else {
			refused++
		}
	}
	if taken < 5000 || refused < 5000 {
		t.Errorf("%d were taken, %d refused", taken, refused)
	}
}

// Any lists, mostly of unlike lengths, with few numbers, so that many are alike.
func TestManyVictims(t *testing.T) {
	d := dice(15)
	found, none := 0, 0
	for range 100000 {
		valid, may := make([]int, d.roll(8)), make([]bool, d.roll(8))
		for i := range valid {
			valid[i] = d.roll(4) - 1
			if d.roll(6) == 0 {
				valid[i] = ends[d.roll(len(ends))]
			}
		}
		for i := range may {
			may[i] = d.roll(2) == 0
		}
		if wantVictim(t, "many", valid, may) {
			found++
		} else {
			none++
		}
	}
	if found < 10000 || none < 10000 {
		t.Errorf("%d had a victim, %d none", found, none)
	}
}

// Two answers share no memory, and nothing of what was told or handed in is kept.
func TestAnswersAreTheCallersOwn(t *testing.T) {
	l := runList(0, 3, 6, 5, 2, 2, 9, 1, 0)
	for range 3 {
		valid, _ := Valid(l, 3, 4)
		valid2, _ := Valid(l, 3, 4)
		parts, _ := Split(l, 4)
		parts2, _ := Split(l, 4)
		moves, _ := Moves(l, 0, 4)
		moves2, _ := Moves(l, 0, 4)
		spoil(valid, -77)
		spoil(parts, strange)
		spoil(moves, strange)
		if !slices.Equal(valid2, []int{3, 2, 1}) {
			t.Errorf("R4: Valid: %v", valid2)
		}
		if !slices.Equal(parts2, runList(0, 2, 6, 2, 1, 8, 5, 2, 2, 9, 1, 0)) {
			t.Errorf("R4: Split: %v", parts2)
		}
		if !slices.Equal(moves2, runList(5, 2, 2, 9, 1, 0)) {
			t.Errorf("R4: Moves: %v", moves2)
		}
		other := runList(0, 1, 1)
		if v, _ := Valid(other, 1, 4); !slices.Equal(v, []int{1}) {
			t.Errorf("R5: Valid: %v", v)
		}
		if p, _ := Split(other, 4); !slices.Equal(p, other) {
			t.Errorf("R5: Split: %v", p)
		}
	}
	handed := slices.Clone(l)
	valid, _ := Valid(handed, 3, 4)
	parts, _ := Split(handed, 4)
	moves, _ := Moves(handed, 1, 4)
	spoil(handed, strange)
	if !slices.Equal(valid, []int{3, 2, 1}) || !slices.Equal(parts, runList(0, 2, 6, 2, 1, 8, 5, 2, 2, 9, 1, 0)) || !slices.Equal(moves, runList(0, 2, 6)) {
		t.Errorf("R4: the answers hang on what was handed in: %v, %v, %v", valid, parts, moves)
	}
}
