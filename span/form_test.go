package span

import (
	"math"
	"slices"
	"testing"

	"ferrule/api"
)

// plainForm is P10.3's words, one pair of runs after the other.
func plainForm(l []api.Run) bool {
	for _, r := range l {
		if r.Lba < 0 || r.Lba > 1073741824 || r.Phys < 0 || r.Phys > 1073741824 || r.Len < 1 || r.Len > 1073741824 {
			return false
		}
	}
	for i, r := range l {
		end, page := int64(r.Lba)+int64(r.Len), int64(r.Phys)+int64(r.Len)
		for k, q := range l {
			sorted := (i < k) == (r.Lba < q.Lba) && (i > k) == (r.Lba > q.Lba)
			apart := i == k || int64(q.Lba) >= end || int64(q.Lba)+int64(q.Len) <= int64(r.Lba)
			if !sorted || !apart || int64(q.Lba) == end && int64(q.Phys) == page {
				return false
			}
		}
	}
	return true
}

// plainFold is P10.3's words, one sector after the other.
func plainFold(l []api.Piece) []api.Run {
	p := plainOf(512, 512)
	for _, q := range l {
		if q.Phys < 0 || q.Phys > 1048576 || q.Len < 1 || q.Lba < 0 || q.Lba > 512 {
			continue
		}
		for i := 0; i < q.Len && q.Lba+i < 512; i++ {
			p.page[q.Lba+i] = q.Phys + i
		}
	}
	return p.Runs()
}

// wantForm asks Form, which leaves the list and its spare room as they are.
func wantForm(t *testing.T, name string, l []api.Run, want bool) {
	t.Helper()
	if plainForm(l) != want {
		t.Fatalf("%s: the plain form tells otherwise of %v", name, l)
	}
	handed := append(slices.Clone(l), api.Run{Lba: 71, Len: 72, Phys: 73})
	same := slices.Clone(handed)
	if got := Form(handed[:len(l)]); got != want {
		t.Errorf("P10.3: %s: Form(%v): %v", name, l, got)
	}
	if !slices.Equal(handed, same) {
		t.Errorf("R4: %s: Form changed what was handed in: %v, was %v", name, handed, same)
	}
}

// wantFold asks Fold, which leaves the list and its spare room as they are; what it tells is in its form.
func wantFold(t *testing.T, name string, l []api.Piece, want []api.Run) {
	t.Helper()
	if p := plainFold(l); !slices.Equal(p, want) {
		t.Fatalf("%s: the plain form tells otherwise of %v: %v", name, l, p)
	}
	handed := append(slices.Clone(l), api.Piece{Lba: 71, Len: 72, Phys: 73})
	same := slices.Clone(handed)
	got := Fold(handed[:len(l)])
	if !slices.Equal(got, want) {
		t.Errorf("P10.3: %s: Fold(%v): %v, want %v", name, l, got, want)
	}
	if !slices.Equal(handed, same) {
		t.Errorf("R4: %s: Fold changed what was handed in: %v, was %v", name, handed, same)
	}
	if !Form(got) {
		t.Errorf("P10.4: %s: Fold(%v) is not in its form: %v", name, l, got)
	}
}

func TestForm(t *testing.T) {
	for _, k := range []struct {
		name string
		l    []api.Run
		want bool
	}{
		{"no runs", nil, true},
		{"no runs, and not nil", []api.Run{}, true},
		{"one", runList(3, 4, 5), true},
		{"two with a hole between", runList(0, 2, 10, 3, 1, 12), true},
		{"two with a hole between, pages that go on as sectors do", runList(0, 2, 10, 3, 1, 13), true},
		{"neighbours in sectors alone", runList(0, 2, 10, 2, 1, 13), true},
		{"neighbours in sectors alone, one page less", runList(0, 2, 10, 2, 1, 11), true},
		{"neighbours in sectors alone, the same pages", runList(0, 2, 10, 2, 2, 10), true},
		{"neighbours in sectors alone, pages the other way round", runList(0, 2, 10, 2, 2, 8), true},
		{"neighbours in pages alone", runList(0, 2, 10, 3, 1, 12), true},
		{"neighbours in both", runList(0, 2, 10, 2, 1, 12), false},
		{"neighbours in both, behind another one", runList(0, 1, 7, 4, 1, 12, 5, 1, 13), false},
		{"neighbours in both, ahead of another one", runList(4, 1, 12, 5, 1, 13, 9, 1, 0), false},
		{"the first and the third are neighbours in pages", runList(0, 1, 7, 1, 1, 3, 2, 1, 8), true},
		{"not sorted", runList(2, 1, 0, 0, 1, 5), false},
		{"not sorted, neighbours", runList(1, 1, 5, 0, 1, 9), false},
		{"not sorted, the last", runList(0, 1, 5, 4, 1, 9, 2, 1, 3), false},
		{"not sorted, the last is first of all", runList(2, 1, 5, 4, 1, 9, 0, 1, 3), false},
		{"the same run again", runList(0, 1, 5, 0, 1, 5), false},
		{"the same sector, another page", runList(0, 1, 5, 0, 1, 6), false},
		{"the same first sector, longer", runList(0, 1, 5, 0, 2, 9), false},
		{"overlapping", runList(0, 2, 0, 1, 2, 5), false},
		{"overlapping, the pages go on", runList(0, 2, 0, 1, 2, 1), false},
		{"overlapping by all but one", runList(0, 5, 0, 1, 9, 50), false},
		{"one within the other", runList(0, 5, 0, 2, 1, 50), false},
		{"the third overlaps the second", runList(0, 1, 5, 2, 3, 9, 4, 1, 1), false},
		{"the same pages for all", runList(0, 1, 5, 1, 1, 5, 2, 1, 5, 4, 1, 5), true},
		{"an empty one", runList(0, 0, 0), false},
		{"an empty one between", runList(0, 1, 5, 1, 0, 9, 2, 1, 5), false},
		{"an empty one at the end", runList(0, 1, 5, 3, 0, 9), false},
	} {
		wantForm(t, k.name, k.l, k.want)
	}
}

// Each field at its bounds and beyond them: alone, as the first, as the last.
func TestFormBounds(t *testing.T) {
	const top = 1 << 30
	beyond := []int{-1, -2, -top, top + 1, top + 2, 1 << 31, 1<<31 - 1, 1 << 32, 1<<32 + 1, math.MaxInt, math.MaxInt - 1, math.MinInt, math.MinInt + 1}
	for _, lba := range []int{0, 1, 511, 512, top - 1, top} {
		wantForm(t, "Lba", runList(lba, 1, 5), true)
		wantForm(t, "Lba behind another one", runList(0, 1, 9, lba, 1, 5), lba > 0)
	}
	for _, n := range []int{1, 2, 512, 513, top - 1, top} {
		wantForm(t, "Len", runList(0, n, 5), true)
		wantForm(t, "Len from the last Lba on", runList(top, n, top), true)
		wantForm(t, "Len behind another one", runList(0, 1, 9, 7, n, 5), true)
		wantForm(t, "Len ahead of the last Lba", runList(0, n, 9, top, 1, 5), true)
		wantForm(t, "Len ahead of the last Lba, neighbours in both", runList(0, n, 0, top, 1, top), n < top)
		wantForm(t, "Len ahead of the last Lba, overlapping", runList(1, n, 9, top, 1, 5), n < top)
	}
	for _, phys := range []int{0, 1, 1 << 20, 1<<20 + 1, top - 1, top} {
		wantForm(t, "Phys", runList(3, 1, phys), true)
		wantForm(t, "Phys behind another one", runList(0, 1, 9, 7, 2, phys), true)
		wantForm(t, "Phys ahead of another one", runList(0, 7, phys, 7, 2, 9), true)
	}
	for _, b := range beyond {
		for _, wrong := range [][]api.Run{runList(b, 1, 5), runList(7, b, 5), runList(7, 1, b), runList(b, b, b)} {
			wantForm(t, "beyond, alone", wrong, false)
			wantForm(t, "beyond, the last", append(runList(0, 1, 9), wrong...), false)
			wantForm(t, "beyond, the first", append(wrong, runList(top, 1, 9)...), false)
			wantForm(t, "beyond, in the middle", slices.Concat(runList(0, 1, 9), wrong, runList(top, 1, 9)), false)
		}
	}
	wantForm(t, "an empty one alone", runList(top, 0, 0), false)
}

// wrongPieces are pieces that are passed over, whatever else there is.
func wrongPieces() []api.Piece {
	l := pieceList(
		0, 4, -1, 0, 4, -2, 0, 4, 1<<20+1, 0, 4, 1<<30, 0, 4, math.MaxInt, 0, 4, math.MaxInt-1, 0, 512, math.MinInt, 0, 1, 1<<32, 0, 1, -1<<32,
		0, 0, 7, 2, 0, 7, 0, -1, 7, 5, -7, 7, 3, math.MinInt, 7, 511, math.MinInt, 7, 0, -1<<32, 7, 511, -511, 7,
		-1, 1, 7, -1, 3, 7, -1, 512, 7, -1, math.MaxInt, 7, -512, 1024, 7, math.MinInt, math.MaxInt, 7, math.MinInt, 1, 7, math.MinInt, math.MinInt, 7,
		-math.MaxInt, math.MaxInt, 7, -1<<32, 1<<32+5, 7,
		513, 1, 7, 513, math.MaxInt, 7, 600, 1, 7, 1<<20, 1, 7, 1<<32, 1, 7, 1<<32+1, 4, 7, math.MaxInt, 1, 7, math.MaxInt, math.MaxInt, 7, math.MaxInt, math.MinInt, 7,
		math.MaxInt-1, 3, 7, 513, -1, 7, 513, -3, 7,
		512, 1, 7, 512, 512, 7, 512, math.MaxInt, 7, 512, 0, 7, 512, -1, 7, 512, math.MinInt, 7)
	return l
}

func TestFoldPassesOver(t *testing.T) {
	good := pieceList(0, 4, 10, 6, 2, 20, 510, 2, 3)
	want := runList(0, 4, 10, 6, 2, 20, 510, 2, 3)
	for _, wrong := range wrongPieces() {
		wantFold(t, "passed over, alone", []api.Piece{wrong}, nil)
		for at := range len(good) + 1 {
			wantFold(t, "passed over", slices.Insert(slices.Clone(good), at, wrong), want)
		}
	}
	wantFold(t, "all of them passed over", wrongPieces(), nil)
	wantFold(t, "all of them, and one more", append(wrongPieces(), api.Piece{Lba: 4, Len: 1, Phys: 9}), runList(4, 1, 9))
}

func TestFold(t *testing.T) {
	const last = 1 << 20
	for _, k := range []struct {
		name string
		l    []api.Piece
		want []api.Run
	}{
		{"none", nil, nil},
		{"none, and not nil", []api.Piece{}, nil},
		{"one", pieceList(3, 4, 5), runList(3, 4, 5)},
		{"not sorted", pieceList(9, 1, 5, 3, 1, 7, 0, 1, 1), runList(0, 1, 1, 3, 1, 7, 9, 1, 5)},
		{"the first page", pieceList(3, 4, 0), runList(3, 4, 0)},
		{"the last page", pieceList(3, 4, last), runList(3, 4, last)},
		{"the last page, and all behind it", pieceList(0, 512, last), runList(0, 512, last)},
		{"cut behind the last page", pieceList(0, 4, last, 0, 1, 5), runList(0, 1, 5, 1, 3, last+1)},
		{"one sector", pieceList(0, 1, 5), runList(0, 1, 5)},
		{"the last sector", pieceList(511, 1, 5), runList(511, 1, 5)},
		{"the last sector, and beyond", pieceList(511, 2, 5), runList(511, 1, 5)},
		{"all", pieceList(0, 512, 5), runList(0, 512, 5)},
		{"up to the last sector", pieceList(3, 509, 5), runList(3, 509, 5)},
		{"up to the last but one", pieceList(3, 508, 5), runList(3, 508, 5)},
		{"all, and one beyond", pieceList(0, 513, 5), runList(0, 512, 5)},
		{"one beyond", pieceList(3, 510, 5), runList(3, 509, 5)},
		{"far beyond", pieceList(3, math.MaxInt, 5, 510, math.MaxInt-1, 1), runList(3, 507, 5, 510, 2, 1)},
		{"all, far beyond, the last page", pieceList(0, math.MaxInt, last), runList(0, 512, last)},
		{"beyond, of 32 bits", pieceList(1, 1<<32, 5, 0, 1<<32+1, 7), runList(0, 512, 7)},
		{"the later over the earlier", pieceList(0, 8, 100, 2, 4, 50, 3, 2, 7), runList(0, 2, 100, 2, 1, 50, 3, 2, 7, 5, 1, 53, 6, 2, 106)},
		{"the same, the other way round", pieceList(3, 2, 7, 2, 4, 50, 0, 8, 100), runList(0, 8, 100)},
		{"the same piece again", pieceList(3, 2, 7, 3, 2, 7), runList(3, 2, 7)},
		{"the same sectors, other pages", pieceList(3, 2, 7, 3, 2, 9), runList(3, 2, 9)},
		{"a hole is passed over, not mapped", pieceList(0, 4, 10, 1, 1, -1), runList(0, 4, 10)},
		{"they merge", pieceList(0, 2, 10, 2, 1, 12), runList(0, 3, 10)},
		{"they merge, the other way round", pieceList(2, 1, 12, 0, 2, 10), runList(0, 3, 10)},
		{"they merge, the middle one last", pieceList(0, 2, 10, 3, 2, 13, 2, 1, 12), runList(0, 5, 10)},
		{"they merge, over another one", pieceList(0, 2, 10, 2, 2, 50, 4, 1, 14, 2, 2, 12), runList(0, 5, 10)},
		{"neighbours in sectors alone", pieceList(0, 2, 10, 2, 1, 13), runList(0, 2, 10, 2, 1, 13)},
		{"neighbours in pages alone", pieceList(0, 2, 10, 3, 1, 12), runList(0, 2, 10, 3, 1, 12)},
		{"overlapping, the pages go on", pieceList(0, 3, 10, 1, 4, 11), runList(0, 5, 10)},
		{"overlapping, the pages do not", pieceList(0, 3, 10, 1, 4, 10), runList(0, 1, 10, 1, 4, 10)},
	} {
		wantFold(t, k.name, k.l, k.want)
	}
}

// As many runs as there are sectors, in any order.
func TestFoldGreatest(t *testing.T) {
	var up []api.Piece
	var want []api.Run
	for lba := range api.MaxCapacity {
		up = append(up, api.Piece{Lba: lba, Len: 1, Phys: 2 * (600 - lba)})
		want = append(want, api.Run{Lba: lba, Len: 1, Phys: 2 * (600 - lba)})
	}
	down := slices.Clone(up)
	slices.Reverse(down)
	wantFold(t, "one a sector", up, want)
	wantFold(t, "one a sector, the last first", down, want)
	wantFold(t, "one a sector, over a great one", slices.Concat(pieceList(0, 512, 5), up), want)
	wantFold(t, "a great one over all", slices.Concat(up, pieceList(0, 512, 5)), runList(0, 512, 5))
	wantFold(t, "twice, and more", slices.Concat(up, down, up), want)
}

// What Fold answers is the caller's own.
func TestFoldAnswersAreApart(t *testing.T) {
	l := pieceList(0, 4, 10, 6, 2, 20, 9, 1, 3)
	want := runList(0, 4, 10, 6, 2, 20, 9, 1, 3)
	kept, other := Fold(l), Fold(l)
	spoil(other, api.Run{Lba: 77, Len: 77, Phys: 77})
	_ = append(Fold(nil), api.Run{Lba: 77})
	if !slices.Equal(kept, want) || !slices.Equal(Fold(l), want) || len(Fold(nil)) != 0 {
		t.Errorf("R4: two answers share memory: %v", kept)
	}
	spoil(l, api.Piece{Lba: 77, Len: 77, Phys: 77})
	if !slices.Equal(kept, want) {
		t.Errorf("R4: an answer shares memory with what was handed in: %v", kept)
	}
	l = piecesOf(want)
	spoil(kept, api.Run{Lba: 77, Len: 77, Phys: 77})
	if !slices.Equal(l, piecesOf(want)) {
		t.Errorf("R4: what was handed in shares memory with an answer: %v", l)
	}
}
