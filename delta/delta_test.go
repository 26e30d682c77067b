package delta

import (
	"bytes"
	"math"
	"slices"
	"testing"

	"ferrule/api"
)

// The signatures are fixed by chapter 11.
var (
	_ func([]api.Op) ([]byte, api.Errno)  = Record
	_ func([]byte) ([]api.Op, api.Errno)  = Changes
	_ func([]api.Run) ([]byte, api.Errno) = Snapshot
	_ func([]byte) ([]api.Run, api.Errno) = Runs
)

const top = 1 << 20 // the greatest Phys

func TestExamples(t *testing.T) {
	records.wantTold(t, "an example", nil, []byte{0})
	records.wantTold(t, "an example", opList(5, 2, 100), []byte{1, 10, 2, 202, 1})
	records.wantTold(t, "an example", opList(5, 2, 100, 7, 1, 102, 0, 1, -1), []byte{3, 10, 2, 202, 1, 0, 1, 2, 15, 1, 0})
	snapshots.wantTold(t, "an example", runList(0, 2, 10, 3, 1, 4), []byte{2, 0, 1, 20, 1, 0, 15})
	records.wantNone(t, "an example", []byte{1, 10})
	snapshots.wantNone(t, "an example", []byte{1, 0, 0, 0, 9})
	snapshots.wantNone(t, "an example", []byte{2, 0, 0, 0, 0, 0, 0})
}

// Bytes by hand, beside those that the plain words tell.
func TestKnownRecords(t *testing.T) {
	for _, c := range []struct {
		name string
		ops  []api.Op
		b    []byte
	}{
		{"none, and not nil", []api.Op{}, []byte{0}},
		{"all 0", opList(0, 0, 0), []byte{1, 0, 0, 2}},
		{"all 0, and nowhere", opList(0, 0, -1), []byte{1, 0, 0, 0}},
		{"the greatest numbers", opList(512, 512, top), []byte{1, 128, 8, 128, 4, 130, 128, 128, 1}},
		{"the last page but one", opList(0, 1, top-1), []byte{1, 0, 1, 128, 128, 128, 1}},
		{"from one end to the other", opList(512, 512, top, 0, 512, 0), []byte{2, 128, 8, 128, 4, 130, 128, 128, 1, 255, 15, 128, 4, 255, 135, 128, 1}},
		{"Lba at the end ahead", opList(3, 4, -1, 7, 1, -1), []byte{2, 6, 4, 0, 0, 1, 0}},
		{"Lba one behind the end ahead", opList(3, 4, -1, 8, 1, -1), []byte{2, 6, 4, 0, 2, 1, 0}},
		{"Lba one ahead of the end ahead", opList(3, 4, -1, 6, 1, -1), []byte{2, 6, 4, 0, 1, 1, 0}},
		{"the same Lba again", opList(3, 4, -1, 3, 4, -1), []byte{2, 6, 4, 0, 7, 4, 0}},
		{"the Lba ahead of it all", opList(3, 4, -1, 0, 4, -1), []byte{2, 6, 4, 0, 13, 4, 0}},
		{"Lba behind an empty one", opList(3, 0, -1, 3, 1, -1), []byte{2, 6, 0, 0, 0, 1, 0}},
		{"Phys at the end ahead", opList(0, 4, 10, 4, 1, 14), []byte{2, 0, 4, 22, 0, 1, 2}},
		{"Phys one behind the end ahead", opList(0, 4, 10, 4, 1, 15), []byte{2, 0, 4, 22, 0, 1, 4}},
		{"Phys one ahead of the end ahead", opList(0, 4, 10, 4, 1, 13), []byte{2, 0, 4, 22, 0, 1, 1}},
		{"Phys two ahead of the end ahead", opList(0, 4, 10, 4, 1, 12), []byte{2, 0, 4, 22, 0, 1, 3}},
		{"Phys 0 behind another one", opList(0, 4, 10, 4, 1, 0), []byte{2, 0, 4, 22, 0, 1, 27}},
		{"Phys at an empty one's", opList(0, 0, 10, 0, 1, 10), []byte{2, 0, 0, 22, 0, 1, 2}},
		{"nowhere at first, then page 0", opList(0, 4, -1, 4, 1, 0), []byte{2, 0, 4, 0, 0, 1, 2}},
		{"nowhere at first, then page 3", opList(0, 4, -1, 4, 1, 3), []byte{2, 0, 4, 0, 0, 1, 8}},
		{"nowhere in between, at the end", opList(0, 4, 10, 4, 9, -1, 13, 1, 14), []byte{3, 0, 4, 22, 0, 9, 0, 0, 1, 2}},
		{"nowhere in between, behind the end", opList(0, 4, 10, 4, 9, -1, 13, 1, 16), []byte{3, 0, 4, 22, 0, 9, 0, 0, 1, 6}},
		{"nowhere in between, ahead of the end", opList(0, 4, 10, 4, 9, -1, 13, 1, 13), []byte{3, 0, 4, 22, 0, 9, 0, 0, 1, 1}},
		{"nowhere twice in between", opList(0, 4, 10, 4, 9, -1, 20, 3, -1, 23, 1, 14), []byte{4, 0, 4, 22, 0, 9, 0, 14, 3, 0, 0, 1, 2}},
		{"a page, nowhere, a page, nowhere, a page", opList(0, 1, 5, 1, 1, -1, 2, 1, 6, 3, 1, -1, 4, 1, 7), []byte{5, 0, 1, 12, 0, 1, 0, 0, 1, 2, 0, 1, 0, 0, 1, 2}},
	} {
		records.wantTold(t, c.name, c.ops, c.b)
	}
}

func TestKnownSnapshots(t *testing.T) {
	for _, c := range []struct {
		name string
		l    []api.Run
		b    []byte
	}{
		{"none", nil, []byte{0}},
		{"none, and not nil", []api.Run{}, []byte{0}},
		{"the first sector, the first page", runList(0, 1, 0), []byte{1, 0, 0, 0}},
		{"all sectors", runList(0, 512, 0), []byte{1, 0, 255, 3, 0}},
		{"all sectors, from the last page on", runList(0, 512, top), []byte{1, 0, 255, 3, 128, 128, 128, 1}},
		{"the last sector", runList(511, 1, 3), []byte{1, 255, 3, 0, 6}},
		{"with a hole between", runList(0, 2, 10, 3, 1, 12), []byte{2, 0, 1, 20, 1, 0, 0}},
		{"neighbours in sectors alone, one page more", runList(0, 2, 10, 2, 1, 13), []byte{2, 0, 1, 20, 0, 0, 2}},
		{"neighbours in sectors alone, one page less", runList(0, 2, 10, 2, 1, 11), []byte{2, 0, 1, 20, 0, 0, 1}},
		{"neighbours in pages alone", runList(4, 2, 10, 7, 3, 12), []byte{2, 4, 1, 20, 1, 2, 0}},
		{"from the last page to the first", runList(0, 511, top, 511, 1, 0), []byte{2, 0, 254, 3, 128, 128, 128, 1, 0, 0, 253, 135, 128, 1}},
		{"the same page for all", runList(0, 1, 5, 1, 1, 5, 2, 1, 5), []byte{3, 0, 0, 10, 0, 0, 1, 0, 0, 1}},
	} {
		snapshots.wantTold(t, c.name, c.l, c.b)
	}
}

// outside are numbers that lie outside of all bounds but -1.
var outside = []int{-2, -3, -512, -513, -top, top + 1, top + 2, 1 << 30, 1 << 31, 1<<31 - 1, -1 << 31, 1 << 32, 1<<32 + 1, 1<<32 - 1, -1 << 32, -1<<32 + 1,
	math.MaxInt, math.MaxInt - 1, math.MaxInt - 512, math.MinInt, math.MinInt + 1, math.MinInt + 512, math.MinInt + 513}

// amid tells a list by itself, and as the first, the last and in the middle of others.
func amid[T any](l []T, ahead, behind []T) [][]T {
	return [][]T{l, slices.Concat(l, behind), slices.Concat(ahead, l), slices.Concat(ahead, l, behind)}
}

func TestRecordBounds(t *testing.T) {
	ahead, behind := opList(1, 1, 9, 4, 2, -1), opList(512, 512, top, 0, 0, 0)
	taken := func(name string, n ...int) {
		t.Helper()
		for _, ops := range amid(opList(n...), ahead, behind) {
			records.wantTaken(t, name, ops)
		}
	}
	refused := func(name string, n ...int) {
		t.Helper()
		for _, ops := range amid(opList(n...), ahead, behind) {
			records.wantRefused(t, name, ops)
		}
	}
	for _, v := range []int{0, 1, 2, 63, 64, 127, 128, 255, 256, 511, 512} {
		taken("Lba", v, 1, 5)
		taken("Len", 3, v, 5)
		taken("Lba and Len", v, v, -1)
		taken("Len from the last Lba on", 512, v, top)
	}
	for _, v := range []int{-1, 0, 1, 2, 512, 513, top - 1, top} {
		taken("Phys", 3, 4, v)
		taken("Phys of an empty one", 3, 0, v)
	}
	for _, v := range append([]int{-1, 513, 514, 1024, top}, outside...) {
		refused("Lba", v, 1, 5)
		refused("Lba, and nowhere", v, 1, -1)
		refused("Len", 3, v, 5)
		refused("Len, and nowhere", 3, v, -1)
		refused("Lba and Len", v, v, 5)
		refused("Lba and Len whose sum is right", v, 5-v, 5)
	}
	for _, v := range outside {
		refused("Phys", 3, 4, v)
		refused("Phys of an empty one", 3, 0, v)
		refused("all three", v, v, v)
	}
}

// rows tells n of what a function makes of numbers from 0 on.
func rows[T any](n int, of func(int) T) []T {
	l := make([]T, n)
	for i := range l {
		l[i] = of(i)
	}
	return l
}

func TestRecordMost(t *testing.T) {
	for name, of := range map[string]func(int) api.Op{
		"of zeros":         func(i int) api.Op { return api.Op{} },
		"of the greatest":  func(i int) api.Op { return api.Op{Lba: 512, Len: 512, Phys: top} },
		"of rising ones":   func(i int) api.Op { return api.Op{Lba: i % 513, Len: 1, Phys: 3 * i} },
		"of falling ones":  func(i int) api.Op { return api.Op{Lba: 512 - i%513, Len: i % 7, Phys: 600000 - 1000*i} },
		"to nowhere":       func(i int) api.Op { return api.Op{Lba: i % 9, Len: i % 5, Phys: -1} },
		"from end to end":  func(i int) api.Op { return api.Op{Lba: 512 * (i % 2), Len: 512 * (i % 2), Phys: top * (i % 2)} },
		"all but the last": func(i int) api.Op { return api.Op{Lba: i % 9, Len: i % 5, Phys: i/511*6 - 1} },
	} {
		for _, n := range []int{1, 2, 127, 128, 129, 255, 256, 257, 511, 512} {
			records.wantTaken(t, name, rows(n, of))
		}
		records.wantRefused(t, name, rows(513, of))
		records.wantRefused(t, name, rows(1000, of))
		for _, at := range []int{0, 200, 511} {
			for _, wrong := range opList(-1, 1, 1, 513, 1, 1, 1, -1, 1, 1, 513, 1, 1, 1, -2, 1, 1, top+1) {
				l := rows(512, of)
				l[at] = wrong
				records.wantRefused(t, name, l)
			}
		}
	}
}

func TestSnapshotForm(t *testing.T) {
	for _, k := range []struct {
		name  string
		l     []api.Run
		taken bool
	}{
		{"one", runList(3, 4, 5), true},
		{"at the first sector and page", runList(0, 3, 0), true},
		{"at the first sector and page, and more", runList(0, 3, 0, 3, 1, 4), true},
		{"sorted", runList(2, 1, 0, 4, 1, 5), true},
		{"not sorted", runList(4, 1, 5, 2, 1, 0), false},
		{"not sorted, neighbours", runList(1, 1, 5, 0, 1, 9), false},
		{"not sorted, the last", runList(0, 1, 5, 4, 1, 9, 2, 1, 3), false},
		{"not sorted, the last is first of all", runList(2, 1, 5, 4, 1, 9, 0, 1, 3), false},
		{"the same again", runList(0, 1, 5, 0, 1, 5), false},
		{"the same sector, another page", runList(0, 1, 5, 0, 1, 6), false},
		{"overlapping", runList(0, 2, 0, 1, 2, 5), false},
		{"overlapping, the pages go on", runList(0, 2, 0, 1, 2, 1), false},
		{"overlapping by all but one", runList(0, 5, 0, 1, 9, 50), false},
		{"one within the other", runList(0, 5, 0, 2, 1, 50), false},
		{"the third overlaps the second", runList(0, 1, 5, 2, 3, 9, 4, 1, 1), false},
		{"neighbours in both", runList(0, 2, 10, 2, 1, 12), false},
		{"neighbours in both, from page 0 on", runList(0, 2, 0, 2, 1, 2), false},
		{"neighbours in both, behind another one", runList(0, 1, 7, 4, 1, 12, 5, 1, 13), false},
		{"neighbours in both, ahead of another one", runList(4, 1, 12, 5, 1, 13, 9, 1, 0), false},
		{"neighbours in both, behind the last page", runList(0, 2, top-1, 2, 1, top+1), false},
		{"neighbours in both, up to the last page", runList(0, 2, top-2, 2, 1, top), false},
		{"neighbours in sectors alone", runList(0, 2, 10, 2, 1, 13), true},
		{"neighbours in sectors alone, the same pages", runList(0, 2, 10, 2, 2, 10), true},
		{"neighbours in sectors alone, pages the other way round", runList(0, 2, 10, 2, 2, 8), true},
		{"neighbours in pages alone", runList(0, 2, 10, 3, 1, 12), true},
		{"a hole in both", runList(0, 2, 10, 3, 1, 13), true},
		{"the first and the third are neighbours in pages", runList(0, 1, 7, 1, 1, 3, 2, 1, 8), true},
		{"an empty one", runList(0, 0, 0), false},
		{"an empty one between", runList(0, 1, 5, 1, 0, 9, 2, 1, 5), false},
		{"an empty one at the end", runList(0, 1, 5, 3, 0, 9), false},
		{"an empty one behind the last sector", runList(0, 1, 5, 512, 0, 9), false},
		{"up to the last sector", runList(3, 509, 5), true},
		{"one behind it", runList(3, 510, 5), false},
		{"the last sector", runList(511, 1, 5), true},
		{"the last sector, and one behind it", runList(511, 2, 5), false},
		{"behind the last sector", runList(512, 1, 5), false},
		{"all", runList(0, 512, 5), true},
		{"all, and one more", runList(0, 513, 5), false},
		{"all, and one behind it", runList(0, 512, 5, 512, 1, 9), false},
		{"two, up to the last sector", runList(0, 3, 9, 3, 509, 5), true},
		{"two, one behind it", runList(0, 3, 9, 3, 510, 5), false},
		{"the last page", runList(0, 3, top), true},
		{"one behind it", runList(0, 3, top+1), false},
		{"the last page, twice", runList(0, 3, top, 3, 1, top), true},
		{"one behind it, the last", runList(0, 3, 9, 3, 1, top+1), false},
		{"one behind it, the first", runList(0, 3, top+1, 3, 1, 9), false},
	} {
		if got := snapshots.wantEither(t, k.name, k.l); got != k.taken {
			t.Errorf("%s: the plain words tell otherwise of %v", k.name, k.l)
		}
	}
}

func TestSnapshotBounds(t *testing.T) {
	ahead, behind := runList(0, 1, 9, 1, 1, 3), runList(510, 1, top, 511, 1, 0)
	for _, v := range append([]int{-1}, outside...) {
		for _, wrong := range [][]api.Run{
			runList(v, 1, 5), runList(7, v, 5), runList(7, 1, v), runList(v, v, v), runList(v, 5-v, 5), runList(v, v, 5), runList(7, v, v), runList(v, 1, v),
			runList(v, math.MaxInt, 5), runList(v, math.MinInt, 5),
		} {
			for _, l := range amid(wrong, ahead, behind) {
				snapshots.wantRefused(t, "outside", l)
			}
		}
	}
	for lba := range 515 {
		for _, n := range []int{1, 2, 511 - lba, 512 - lba, 513 - lba, 512, 513} {
			for _, phys := range []int{0, 1, top - 1, top, top + 1} {
				taken := snapshots.wantEither(t, "one", runList(lba, n, phys))
				if want := lba+n <= 512 && n >= 1 && phys <= top; taken != want {
					t.Fatalf("P11.2: (%d %d %d): taken: %v", lba, n, phys, taken)
				}
			}
		}
	}
}

func TestSnapshotMost(t *testing.T) {
	for name, of := range map[string]func(int) api.Run{
		"falling pages":      func(i int) api.Run { return api.Run{Lba: i, Len: 1, Phys: 2 * (600 - i)} },
		"one page for all":   func(i int) api.Run { return api.Run{Lba: i, Len: 1, Phys: 77} },
		"the last page":      func(i int) api.Run { return api.Run{Lba: i, Len: 1, Phys: top} },
		"from end to end":    func(i int) api.Run { return api.Run{Lba: i, Len: 1, Phys: top * (i % 2)} },
		"every other page":   func(i int) api.Run { return api.Run{Lba: i, Len: 1, Phys: 2 * i} },
		"great steps behind": func(i int) api.Run { return api.Run{Lba: i, Len: 1, Phys: 2000 * i} },
	} {
		for _, n := range []int{1, 2, 127, 128, 129, 255, 256, 511, 512} {
			snapshots.wantTaken(t, name, rows(n, of))
		}
		snapshots.wantRefused(t, name, rows(513, of))
		snapshots.wantRefused(t, name, rows(1000, of))
		for _, at := range []int{0, 200, 511} {
			for _, wrong := range runList(at, 0, 5, at, 1, -1, at, 1, top+1, at, 2, 5, at+1, 1, 5, -1, 1, 5) {
				l := rows(512, of)
				l[at] = wrong
				snapshots.wantRefused(t, name, l)
			}
		}
	}
	// More than MaxRuns that hold to no sector at all.
	snapshots.wantRefused(t, "zeros", make([]api.Run, 513))
	snapshots.wantRefused(t, "zeros", make([]api.Run, 512))
}

// spoil writes over a list and its spare room.
func spoil[T any](l []T, v T) {
	l = l[:cap(l)]
	for i := range l {
		l[i] = v
	}
}

// wantApart asks that no answer shares memory with another one or with what was handed in.
func (s side[T]) wantApart(t *testing.T, l []T) {
	t.Helper()
	list, row := slices.Clone(l), s.plainTell(l)
	in := slices.Grow(slices.Clone(l), 5)
	told, other := must(s.tell(in)), must(s.tell(in))
	spoil(in, s.any)
	spoil(other, 177)
	if !bytes.Equal(told, row) || !bytes.Equal(must(s.tell(list)), row) {
		t.Errorf("R4: what was told of %v changes with what was handed in, or with another answer: %v", list, told)
	}
	b := slices.Grow(bytes.Clone(row), 5)
	read, another := must(s.read(b)), must(s.read(b))
	spoil(another, s.any)
	if !bytes.Equal(b, row) {
		t.Errorf("R4: what was handed in changes with an answer: %v", b)
	}
	spoil(b, 177)
	if !slices.Equal(read, list) || !slices.Equal(must(s.read(row)), list) {
		t.Errorf("R4: what was read of %v changes with what was handed in, or with another answer: %v", row, read)
	}
	spoil(told, 177)
	spoil(read, s.any)
	if again := must(s.tell(list)); !bytes.Equal(again, row) {
		t.Errorf("R4: a later answer changes with an earlier one: %v", again)
	}
	if again := must(s.read(row)); !slices.Equal(again, list) {
		t.Errorf("R4: a later answer changes with an earlier one: %v", again)
	}
}

// must tells an answer without an error.
func must[A any](a A, e api.Errno) A {
	if e != api.OK {
		panic(e)
	}
	return a
}

func TestAnswersAreApart(t *testing.T) {
	for _, ops := range someOps() {
		records.wantApart(t, ops)
	}
	for _, l := range someRuns() {
		snapshots.wantApart(t, l)
	}
}

// Refused calls and others in between change no answer.
func TestAnswersHangOnArgumentsAlone(t *testing.T) {
	for i := range 200 {
		Record(opList(i, 1, 5, 600, 1, 1))
		Record(opList(i, 2, i, 9, 9, -1))
		Changes([]byte{byte(i), 1, 2})
		Changes([]byte{1, byte(i), 3, 0})
		Snapshot(runList(i, 1, 5, 0, 0, 0))
		Snapshot(runList(i, 1, i))
		Runs([]byte{1, byte(i), 3, 0})
		Runs([]byte{byte(i)})
		records.wantTold(t, "R5", opList(5, 2, 100, 7, 1, 102, 0, 1, -1), []byte{3, 10, 2, 202, 1, 0, 1, 2, 15, 1, 0})
		snapshots.wantTold(t, "R5", runList(0, 2, 10, 3, 1, 4), []byte{2, 0, 1, 20, 1, 0, 15})
		records.wantNone(t, "R5", []byte{1, 10})
		snapshots.wantNone(t, "R5", []byte{2, 0, 0, 0, 0, 0, 0})
		records.wantRefused(t, "R5", opList(0, 513, 0))
		snapshots.wantRefused(t, "R5", runList(0, 513, 0))
	}
}
