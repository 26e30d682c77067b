package window

import (
	"slices"
	"testing"

	"ferrule/api"
)

// wantEach asks all calls about one list, and tells whether they answered.
func wantEach(t *testing.T, name string, l []api.Run) (many, holes bool) {
	t.Helper()
	many, holes = wantMany(t, name, l, 512, 512), wantHoles(t, name, l, 0, 512)
	for _, w := range []int{1, 2, 7} {
		if wantMany(t, name, l, 512, w) != many || wantHoles(t, name, l, w, 2*w) != holes {
			t.Fatalf("%s: the plain form tells otherwise of a window of %d", name, w)
		}
	}
	return many, holes
}

// Lists that are not in their form, and beside each one that is.
func TestForm(t *testing.T) {
	for _, k := range []struct {
		name         string
		wrong, right []api.Run
	}{
		{"a length of 0", runList(0, 0, 5), runList(0, 1, 5)},
		{"a length below 0", runList(3, -1, 5), runList(3, 1, 5)},
		{"the second has a length of 0", runList(0, 2, 5, 4, 0, 9), runList(0, 2, 5, 4, 1, 9)},
		{"a sector below 0", runList(-1, 2, 5), runList(0, 2, 5)},
		{"all sectors below 0", runList(-4, 2, 5), runList(4, 2, 5)},
		{"a page below 0", runList(0, 2, -1), runList(0, 2, 0)},
		{"the second has a page below 0", runList(0, 2, 5, 4, 1, -1), runList(0, 2, 5, 4, 1, 0)},
		{"a page above 2^30", runList(0, 2, 1<<30+1), runList(0, 2, 1<<30)},
		{"the second has a page above 2^30", runList(0, 2, 5, 2, 2, 1<<30+1), runList(0, 2, 5, 2, 2, 1<<30)},
		{"the same twice", runList(3, 2, 5, 3, 2, 5), runList(3, 2, 5, 5, 2, 5)},
		{"the same sectors twice", runList(3, 2, 5, 3, 2, 50), runList(3, 2, 5, 5, 2, 50)},
		{"one over the end of another", runList(0, 3, 5, 2, 3, 50), runList(0, 3, 5, 3, 3, 50)},
		{"one over the end of another, as if one", runList(0, 3, 5, 2, 3, 7), runList(0, 3, 5, 3, 3, 7)},
		{"one within another", runList(0, 9, 5, 3, 1, 50), runList(0, 3, 5, 3, 1, 50)},
		{"the third over the second", runList(0, 1, 1, 4, 4, 9, 7, 1, 3), runList(0, 1, 1, 4, 4, 9, 8, 1, 3)},
		{"not in order", runList(5, 1, 0, 2, 1, 9), runList(2, 1, 9, 5, 1, 0)},
		{"not in order, as neighbours", runList(5, 1, 0, 4, 1, 9), runList(4, 1, 9, 5, 1, 0)},
		{"the third ahead of the second", runList(0, 1, 5, 8, 1, 0, 6, 2, 9), runList(0, 1, 5, 6, 2, 9, 8, 1, 0)},
		{"two that are one", runList(0, 2, 10, 2, 1, 12), runList(0, 2, 10, 2, 1, 13)},
		{"two that are one, from 0 on", runList(0, 1, 0, 1, 1, 1), runList(0, 1, 0, 1, 1, 0)},
		{"two that are one, where windows meet", runList(3, 4, 10, 7, 7, 14), runList(3, 4, 10, 7, 7, 13)},
		{"two that are one, at the last page", runList(0, 3, 1<<30-3, 3, 1, 1<<30), runList(0, 3, 1<<30-2, 3, 1, 1<<30)},
		{"the last two are one", runList(0, 1, 3, 5, 2, 10, 7, 1, 12), runList(0, 1, 3, 5, 2, 10, 8, 1, 12)},
	} {
		if many, holes := wantEach(t, k.name, k.wrong); many || holes {
			t.Fatalf("%s: the plain form takes %v", k.name, k.wrong)
		}
		if many, holes := wantEach(t, "not "+k.name, k.right); !many || !holes {
			t.Fatalf("not %s: the plain form does not take %v", k.name, k.right)
		}
	}
}

// A number that may not be, at each place of a list that is right.
func TestFormEnds(t *testing.T) {
	l := runList(3, 4, 20, 7, 2, 7, 12, 1, 9)
	if many, holes := wantEach(t, "as it is", l); !many || !holes {
		t.Fatalf("the plain form does not take %v", l)
	}
	for _, v := range ends {
		for i := range l {
			for name, changed := range map[string]api.Run{
				"Lba":  {Lba: v, Len: l[i].Len, Phys: l[i].Phys},
				"Len":  {Lba: l[i].Lba, Len: v, Phys: l[i].Phys},
				"Phys": {Lba: l[i].Lba, Len: l[i].Len, Phys: v},
				"all":  {Lba: v, Len: v, Phys: v},
				"both": {Lba: v, Len: v, Phys: l[i].Phys},
				"each": {Lba: l[i].Lba, Len: v, Phys: v},
			} {
				wrong := slices.Clone(l)
				wrong[i] = changed
				for _, m := range [][]api.Run{wrong, wrong[:i+1], wrong[i:], wrong[i : i+1]} {
					if many, holes := wantEach(t, name, m); many || holes {
						t.Fatalf("%s: the plain form takes %v", name, m)
					}
				}
			}
		}
	}
}

// Sums that come back to small numbers, if nothing bounds them.
func TestFormSums(t *testing.T) {
	for _, wrong := range [][]api.Run{
		runList(1<<62, 1<<62, 0), runList(1<<62, 1<<62, 1<<62), runList(0, 1<<62, 1<<62), runList(1, 1<<63-1, 5), runList(1<<63-1, 2, 5),
		runList(1<<63-1, 1<<63-1, 1<<63-1), runList(0, 1<<63-1, 1), runList(0, 2, 1<<63-1), runList(0, 512, 1<<63-512), runList(2, -1<<63, 2),
		runList(0, 2, 1<<63-1, 2, 1, -1<<63+1), runList(0, 1, 1<<63-1, 1, 1, -1<<63), runList(5, 1, 5, 1<<63-1, 9, 9), runList(1<<63-1, 9, 9, 5, 1, 5),
		runList(-1<<63, 1<<63-1, 5), runList(-1<<63, -1<<63, 5), runList(-1, 1<<63-1, 5), runList(-1<<63, 1, 0, 3, 1, 0),
	} {
		if many, holes := wantEach(t, "a sum", wrong); many || holes {
			t.Fatalf("the plain form takes %v", wrong)
		}
	}
}

// single are n runs of one sector each, from a sector on; no two of them could be one.
func single(n, from int) []api.Run {
	var l []api.Run
	for i := range n {
		l = append(l, api.Run{Lba: from + i, Len: 1, Phys: 2 * (i % 1000)})
	}
	return l
}

// As many runs as may be, and as many sectors, and one more.
func TestLimits(t *testing.T) {
	for _, k := range []struct {
		name string
		l    []api.Run
		want bool
	}{
		{"511 runs", single(511, 0), true},
		{"512 runs", single(512, 0), true},
		{"513 runs", single(513, 0), false},
		{"512 runs, from 1 on", single(512, 1), false},
		{"511 runs, from 1 on", single(511, 1), true},
		{"513 runs, one of them ahead of all", append(single(512, 0), single(1, 0)...), false},
		{"a run that ends at 512", runList(500, 12, 3), true},
		{"a run that ends at 513", runList(500, 13, 3), false},
		{"a run of all sectors", runList(0, 512, 3), true},
		{"a run of one sector more", runList(0, 513, 3), false},
		{"a run of all sectors, one farther", runList(1, 512, 3), false},
		{"a run of all sectors but one", runList(1, 511, 3), true},
		{"a run in the last sector", runList(511, 1, 3), true},
		{"a run behind it", runList(512, 1, 3), false},
		{"a run far behind it", runList(1000, 1, 3), false},
		{"the second ends at 512", runList(0, 1, 9, 2, 510, 3), true},
		{"the second ends at 513", runList(0, 1, 9, 2, 511, 3), false},
		{"the second stands behind 512", runList(0, 1, 9, 513, 1, 3), false},
	} {
		if many, holes := wantEach(t, k.name, k.l); many != k.want || holes != k.want {
			t.Fatalf("%s: the plain form tells otherwise", k.name)
		}
	}
}

// Each run of few sectors and pages, and each two of them: many are not in their form.
func TestEverySmallPair(t *testing.T) {
	var each []api.Run
	for lba := range 5 {
		for n := range 4 {
			for phys := range 4 {
				each = append(each, api.Run{Lba: lba - 1, Len: n, Phys: phys - 1})
			}
		}
	}
	taken, refused := 0, 0
	for _, a := range each {
		for _, b := range each {
			l := []api.Run{a, b}
			wantHoles(t, "pair", l, 0, 7)
			wantHoles(t, "pair", l, 2, 3)
			for c := 3; c <= 6; c++ {
				for w := 1; w <= 3; w++ {
					if wantMany(t, "pair", l, c, w) {
						taken++
					} else {
						refused++
					}
				}
			}
		}
	}
	if taken < 1500 || refused < 1500 {
		t.Errorf("%d were taken, %d refused", taken, refused)
	}
}

// runsOf tells the runs of a few sectors, each a digit of row: mapped nowhere, or
// to one of few pages.
func runsOf(row, sectors int) []api.Run {
	var l []api.Run
	for s := range sectors {
		phys := row%4 - 1
		row /= 4
		if phys < 0 {
			continue
		}
		if k := len(l) - 1; k >= 0 && s == l[k].Lba+l[k].Len && phys == l[k].Phys+l[k].Len {
			l[k].Len++
			continue
		}
		l = append(l, api.Run{Lba: s, Len: 1, Phys: phys})
	}
	return l
}

// Each map of few sectors and pages, with each window and each range.
func TestEverySmallRow(t *testing.T) {
	const sectors = 6
	rich := 0
	for row := range 1 << (2 * sectors) {
		l := runsOf(row, sectors)
		for c := sectors; c <= sectors+2; c++ {
			for w := 1; w <= c; w++ {
				if !wantMany(t, "small", l, c, w) {
					t.Fatalf("the plain form does not take %v", l)
				}
				if len(l) > 2*((c+w-1)/w) {
					rich++
				}
			}
		}
		for lba := range sectors + 1 {
			for n := 1; n <= sectors+2-lba; n++ {
				if !wantHoles(t, "small", l, lba, n) {
					t.Fatalf("the plain form does not take %v", l)
				}
			}
		}
	}
	if rich < 1000 {
		t.Errorf("%d had more runs than twice as many as windows", rich)
	}
}

// dice hands out numbers that hang on a seed alone.
type dice uint64

func (d *dice) roll(n int) int {
	*d = *d*6364136223846793005 + 1442695040888963407
	return int(uint64(*d)>>33) % n
}

// runs tells any runs in their form, at most n, that end within a capacity.
func (d *dice) runs(n, capacity int) []api.Run {
	var l []api.Run
	at, page := 0, -1
	for len(l) < n {
		r := api.Run{Lba: at, Len: 1 + d.roll(1+d.roll(1+2*capacity/n)), Phys: d.roll(1 + d.roll(1<<30+1))}
		switch d.roll(4) {
		case 0:
			r.Lba += d.roll(1 + capacity/n)
		case 1:
			r.Phys = min(1<<30, max(0, page+d.roll(7)-3))
		}
		if r.Lba+r.Len > capacity {
			break
		}
		if len(l) > 0 && r.Lba == at && r.Phys == page {
			at++
			continue
		}
		l = append(l, r)
		at, page = r.Lba+r.Len, r.Phys+r.Len
	}
	return l
}

// Any runs with any windows and ranges.
func TestManyRows(t *testing.T) {
	d := dice(16)
	rich := 0
	for range 3000 {
		c := 1 + d.roll(512)
		w := 1 + d.roll(1+d.roll(c))
		l := d.runs(1+d.roll(1+d.roll(c)), c)
		if !wantMany(t, "many", l, c, w) {
			t.Fatalf("the plain form does not take %v of %d, %d", l, c, w)
		}
		if len(l) > 2*((c+w-1)/w) {
			rich++
		}
		for range 3 {
			lba := d.roll(512)
			if !wantHoles(t, "many", l, lba, 1+d.roll(512-lba)) {
				t.Fatalf("the plain form does not take %v", l)
			}
		}
		wantMany(t, "many, of a smaller capacity", l, 1+d.roll(c), w)
		wantHoles(t, "many, all", l, 0, 512)
	}
	if rich < 500 {
		t.Errorf("%d had more runs than twice as many as windows", rich)
	}
}

// One number of any runs is another.
func TestManyChanges(t *testing.T) {
	d := dice(17)
	taken, refused := 0, 0
	for range 30000 {
		c := 1 + d.roll(60)
		w := 1 + d.roll(c)
		l := d.runs(1+d.roll(12), c)
		if len(l) == 0 {
			continue
		}
		r := &l[d.roll(len(l))]
		field := []*int{&r.Lba, &r.Len, &r.Phys}[d.roll(3)]
		if d.roll(8) == 0 {
			*field = ends[d.roll(len(ends))]
		} else {
			*field += d.roll(5) - 2
		}
		wantHoles(t, "changed", l, d.roll(c+1), d.roll(c+1))
		if wantMany(t, "changed", l, c, w) {
			taken++
		} else {
			refused++
		}
	}
	if taken < 5000 || refused < 5000 {
		t.Errorf("%d were taken, %d refused", taken, refused)
	}
}

// Two answers share no memory, and nothing of what was told or handed in is kept.
func TestAnswersAreTheCallersOwn(t *testing.T) {
	l := runList(0, 1, 5, 2, 1, 9, 3, 3, 20)
	wantMine := func(many []int, holes []api.Piece) {
		t.Helper()
		if !slices.Equal(many, []int{3, 1}) || !slices.Equal(holes, holeList(1, 1, 6, 4)) {
			t.Errorf("R4: %v, %v", many, holes)
		}
	}
	for range 3 {
		many, _ := Many(l, 8, 4)
		holes, _ := Holes(l, 0, 10)
		many2, _ := Many(l, 8, 4)
		holes2, _ := Holes(l, 0, 10)
		spoil(many, -77)
		spoil(holes, api.Piece(strange))
		wantMine(many2, holes2)
		if other, _ := Many(runList(5, 1, 1), 6, 3); !slices.Equal(other, []int{0, 1}) {
			t.Errorf("R5: Many: %v", other)
		}
		if other, _ := Holes(runList(5, 1, 1), 0, 6); !slices.Equal(other, holeList(0, 5)) {
			t.Errorf("R5: Holes: %v", other)
		}
		wantMine(many2, holes2)
	}
	handed := slices.Clone(l)
	many, _ := Many(handed, 8, 4)
	holes, _ := Holes(handed, 0, 10)
	spoil(handed, strange)
	wantMine(many, holes)
}
