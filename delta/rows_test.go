package delta

import (
	"bytes"
	"encoding/binary"
	"math"
	"slices"
	"testing"

	"ferrule/api"
)

// dice hands out numbers that hang on a seed alone.
type dice uint64

func (d *dice) roll(n int) int {
	*d = *d*6364136223846793005 + 1442695040888963407
	return int(uint64(*d)>>33) % n
}

// ops tells any changes that may be told.
func (d *dice) ops(n int) []api.Op {
	return rows(n, func(int) api.Op {
		o := api.Op{Lba: d.roll(513), Len: d.roll(1 + d.roll(513)), Phys: d.roll(1 + d.roll(top+1))}
		switch d.roll(5) {
		case 0:
			o.Phys = -1
		case 1:
			o.Phys = d.roll(60)
		case 2:
			o.Len = d.roll(4)
		}
		return o
	})
}

// runs tells any runs that may be told, at most n.
func (d *dice) runs(n int) []api.Run {
	var l []api.Run
	at, page := 0, -1
	for len(l) < n {
		r := api.Run{Lba: at, Len: 1 + d.roll(1+d.roll(1024/n)), Phys: d.roll(1 + d.roll(top+1))}
		switch d.roll(4) {
		case 0:
			r.Lba += d.roll(1 + 512/n)
		case 1:
			r.Phys = max(0, page+d.roll(7)-3)
		}
		if r.Lba+r.Len > 512 {
			break
		}
		if r.Phys > top || len(l) > 0 && r.Lba == at && r.Phys == page {
			continue
		}
		l = append(l, r)
		at, page = r.Lba+r.Len, r.Phys+r.Len
	}
	return l
}

// someOps are lists of changes, each not long.
func someOps() [][]api.Op {
	d := dice(3)
	return [][]api.Op{
		nil, opList(0, 0, 0), opList(0, 0, -1), opList(512, 512, top), opList(5, 2, 100, 7, 1, 102, 0, 1, -1),
		opList(0, 1, -1, 1, 1, -1, 2, 1, 0, 3, 1, -1, 4, 1, 1, 0, 9, 0), opList(512, 512, top, 0, 512, 0, 512, 512, top, 3, 0, 5),
		d.ops(4), d.ops(9), d.ops(20),
	}
}

// someRuns are lists of runs, each not long.
func someRuns() [][]api.Run {
	d := dice(7)
	return [][]api.Run{
		nil, runList(0, 1, 0), runList(0, 512, top), runList(511, 1, top), runList(0, 2, 10, 3, 1, 4), runList(0, 1, 5, 1, 1, 5, 2, 1, 7, 9, 300, 8),
		runList(0, 511, top, 511, 1, 0), runList(0, 1, top, 1, 1, 0, 2, 1, top, 3, 509, 3), d.runs(4), d.runs(9), d.runs(20),
	}
}

// greatRows are lists of as many as can be.
func greatRows() ([]api.Op, []api.Run) {
	d := dice(9)
	return d.ops(512), rows(512, func(i int) api.Run { return api.Run{Lba: i, Len: 1, Phys: 2*d.roll(500000) + i%2} })
}

// cutShort reads bytes cut at every place.
func (s side[T]) cutShort(t *testing.T, b []byte) {
	t.Helper()
	for n := range b {
		s.wantNone(t, "cut short", b[:n])
	}
}

// oneMore reads bytes with one more, and with more of the same.
func (s side[T]) oneMore(t *testing.T, b []byte) {
	t.Helper()
	for x := range 256 {
		s.wantNone(t, "a byte more", append(bytes.Clone(b), byte(x)))
		s.wantNone(t, "two bytes more", append(bytes.Clone(b), byte(x), 0))
	}
	s.wantNone(t, "twice", slices.Concat(b, b))
}

// oneOther reads bytes of which one is changed; step is from one value to the next.
func (s side[T]) oneOther(t *testing.T, b []byte, step int) (read int) {
	t.Helper()
	for i := range b {
		for x := step; x < 256; x += step {
			c := bytes.Clone(b)
			c[i] ^= byte(x)
			if s.wantRead(t, "a byte changed", c) {
				read++
			}
		}
	}
	return read
}

// parts cuts bytes into their numbers.
func parts(b []byte) [][]byte {
	var l [][]byte
	for len(b) > 0 {
		n := 1 + slices.IndexFunc(b, func(x byte) bool { return x < 128 })
		l = append(l, b[:n])
		b = b[n:]
	}
	return l
}

// longer reads bytes of which one number has more bytes than it needs.
func (s side[T]) longer(t *testing.T, b []byte) {
	t.Helper()
	l := parts(b)
	for i, p := range l {
		open := bytes.Clone(p)
		open[len(open)-1] |= 128
		for more := range 12 {
			c := slices.Concat(open, bytes.Repeat([]byte{128}, more), []byte{0})
			s.wantNone(t, "a number in more bytes than it needs", slices.Concat(bytes.Join(l[:i], nil), c, bytes.Join(l[i+1:], nil)))
		}
	}
}

// edges are numbers at the bounds of what may be told, and at the ends of int.
func edges() []uint64 {
	l := []uint64{math.MaxInt64, math.MaxInt64 + 1, 1<<31 - 1, 1 << 31, 1<<32 - 1, 1 << 32, 1<<32 + 1, 1 << 62, 1<<62 + 1}
	for v := range uint64(6) {
		l = append(l, v, math.MaxUint64-v, math.MaxInt64-v, 510+v, 1022+v, 2046+v, 1<<20-3+v, 1<<21-3+v, 1<<21+1022+v, math.MaxUint64-1022-v)
	}
	return l
}

// otherNumbers reads bytes of which one number is another one, also if more than 64 bits are said.
func (s side[T]) otherNumbers(t *testing.T, b []byte) (read int) {
	t.Helper()
	l := parts(b)
	others := [][]byte{append(bytes.Repeat([]byte{255}, 9), 2), append(bytes.Repeat([]byte{128}, 10), 1), nil}
	for _, v := range edges() {
		others = append(others, binary.AppendUvarint(nil, v))
	}
	for i := range l {
		for _, p := range others {
			if s.wantRead(t, "another number", slices.Concat(bytes.Join(l[:i], nil), p, bytes.Join(l[i+1:], nil))) {
				read++
			}
		}
	}
	return read
}

// otherCounts reads bytes whose count is any other.
func (s side[T]) otherCounts(t *testing.T, b []byte, n int) {
	t.Helper()
	l := parts(b)
	rest := bytes.Join(l[1:], nil)
	counts := append(edges(), rows(520, func(i int) uint64 { return uint64(i) })...)
	for _, v := range counts {
		if v != uint64(n) {
			s.wantNone(t, "another count", append(binary.AppendUvarint(nil, v), rest...))
		}
	}
}

// wrongRows reads all that may be made of the bytes of short lists.
func (s side[T]) wrongRows(t *testing.T, lists [][]T) {
	t.Helper()
	read := 0
	for _, l := range lists {
		b := s.plainTell(l)
		s.wantTaken(t, "a list", l)
		s.cutShort(t, b)
		s.oneMore(t, b)
		s.longer(t, b)
		s.otherCounts(t, b, len(l))
		read += s.oneOther(t, b, 1) + s.otherNumbers(t, b)
	}
	if read < 1000 {
		t.Errorf("only %d of the changed rows say a list", read)
	}
}

func TestChangesOfWrongRows(t *testing.T) { records.wrongRows(t, someOps()) }

func TestRunsOfWrongRows(t *testing.T) { snapshots.wrongRows(t, someRuns()) }

func TestGreatRows(t *testing.T) {
	ops, l := greatRows()
	records.great(t, ops, api.Op{Lba: 1, Len: 1, Phys: 1})
	snapshots.great(t, l, api.Run{Lba: 512, Len: 1, Phys: 1})
}

// great reads the bytes of as many as can be, cut and changed, and those of one more.
func (s side[T]) great(t *testing.T, l []T, more T) {
	t.Helper()
	s.wantTaken(t, "as many as can be", l)
	b := s.plainTell(l)
	s.cutShort(t, b)
	s.otherCounts(t, b, len(l))
	s.oneOther(t, b, 113)
	s.wantNone(t, "one more", s.plainTell(append(slices.Clone(l), more)))
	s.wantNone(t, "twice as many", s.plainTell(slices.Concat(l, l)))
}

// Rows that say just what would be refused.
func TestRowsOfWhatIsRefused(t *testing.T) {
	for _, ops := range [][]api.Op{
		opList(-1, 1, 1), opList(513, 1, 1), opList(0, 513, 1), opList(0, 1, top+1), opList(3, 1, 9, -1, 1, 9), opList(3, 1, 9, 513, 1, 9), opList(3, 600, 9, 4, 1, 9),
		opList(3, 1, 9, 3, 1, -2), opList(3, 1, 9, 3, 1, top+1), opList(3, 1, top+1, 3, 1, 9), opList(-1, 3, -1, 2, 1, 5),
	} {
		records.wantRefused(t, "changes", ops)
		records.wantNone(t, "changes", plainRecord(ops))
	}
	for _, l := range [][]api.Run{
		runList(0, 2, 10, 2, 1, 12), runList(0, 2, 0, 2, 1, 2), runList(0, 513, 0), runList(512, 1, 0), runList(511, 2, 0), runList(0, 1, top+1), runList(0, 1, 5, 4, 1, top+1),
		runList(0, 512, 4, 512, 1, 9), runList(3, 1, -1), runList(3, 1, 9, 4, 1, -1), runList(0, 1, -1, 5, 1, 9), runList(0, 1, top+1, 5, 1, 9), runList(0, 1<<30, 5), runList(0, 1, 1<<30),
	} {
		snapshots.wantRefused(t, "runs", l)
		snapshots.wantNone(t, "runs", plainSnapshot(l))
	}
	// A page of -1 that is told as one ahead of an end, and not as nowhere.
	records.wantNone(t, "the page -1, at first", []byte{1, 0, 1, 1})
	records.wantNone(t, "the page -1", []byte{2, 0, 1, 12, 0, 1, 13})
	records.wantTold(t, "the page 0", opList(0, 1, 5, 1, 1, 0), []byte{2, 0, 1, 12, 0, 1, 11})
}

// A step that leads round the ends of an int to where it may lead.
func TestRowsThatWrapRound(t *testing.T) {
	for _, far := range []int64{math.MinInt64, math.MinInt64 + 1, math.MinInt64 + 2, math.MaxInt64, math.MaxInt64 - 1, math.MaxInt64 - 2} {
		step := binary.AppendVarint(nil, far)
		for _, back := range []int64{far, -far, ^far, far + 1, far - 1, 1 - far, 2 - far, -1 - far} {
			again := binary.AppendVarint(nil, back)
			records.wantNone(t, "Lba", slices.Concat([]byte{2}, step, []byte{0, 0}, again, []byte{0, 0}))
			records.wantNone(t, "Phys", slices.Concat([]byte{2, 0, 0}, step, []byte{0, 0}, again))
			snapshots.wantNone(t, "Phys", slices.Concat([]byte{2, 0, 0}, step, []byte{1, 0}, again))
		}
	}
	for _, far := range []uint64{math.MaxUint64, math.MaxUint64 - 1, 1 << 63, 1<<63 - 1, 1<<63 + 1, math.MaxUint64 - 510, math.MaxUint64 - 511} {
		number := binary.AppendUvarint(nil, far)
		for _, back := range []uint64{-far, far, 1 - far, 2 - far, ^far, ^far - 1} {
			again := binary.AppendUvarint(nil, back)
			records.wantNone(t, "Len", slices.Concat([]byte{2, 6}, number, []byte{0}, []byte{0}, again, []byte{0}))
			snapshots.wantNone(t, "Lba", slices.Concat([]byte{2}, number, []byte{0, 9, 1}, again, []byte{9}))
			snapshots.wantNone(t, "Lba and Len", slices.Concat([]byte{1}, number, again, []byte{9}))
			snapshots.wantNone(t, "Len", slices.Concat([]byte{2, 5}, number, []byte{9}, again, []byte{0, 9}))
		}
	}
}

// quick asks of many short rows, without the plain words: EFORM, or a list of
// which just these bytes are told. It tells how many say one.
func (s side[T]) quick(t *testing.T, b []byte, read *int) {
	l, e := s.read(b)
	if e == api.EFORM && len(l) == 0 {
		return
	}
	told, e2 := s.tell(l)
	if e != api.OK || e2 != api.OK || !bytes.Equal(told, b) {
		t.Fatalf("%s: of %v were read %v, %d, of which are told %v, %d", s.promise, b, l, e, told, e2)
	}
	*read++
}

// short reads all rows of up to three bytes, and all of four that say one item;
// of these there are as many as numbers of one byte say.
func (s side[T]) short(t *testing.T, want int) {
	t.Helper()
	read := 0
	s.quick(t, nil, &read)
	for x := range 256 {
		s.quick(t, []byte{byte(x)}, &read)
	}
	for v := range 1 << 16 {
		s.quick(t, []byte{byte(v), byte(v >> 8)}, &read)
	}
	for v := range 1 << 24 {
		s.quick(t, []byte{byte(v), byte(v >> 8), byte(v >> 16)}, &read)
	}
	if read != 1 {
		t.Errorf("%s: %d rows of up to three bytes say a list; just one does", s.promise, read)
	}
	read = 0
	for v := range 1 << 24 {
		s.quick(t, []byte{1, byte(v), byte(v >> 8), byte(v >> 16)}, &read)
	}
	if read != want {
		t.Errorf("%s: %d rows of four bytes say one item, want %d", s.promise, read, want)
	}
}

// Lba from 0 to 63, Len to 127, Phys from -1 to 62.
func TestShortRecords(t *testing.T) {
	t.Parallel()
	records.short(t, 64*128*64)
}

// Lba from 0 to 127, Len from 1 to 128, Phys from 0 to 63.
func TestShortSnapshots(t *testing.T) {
	t.Parallel()
	snapshots.short(t, 128*128*64)
}

// allLists does something with each list of that length, each item one of those told.
func allLists[T any](length int, items []T, do func([]T)) {
	var fill func(l []T)
	fill = func(l []T) {
		if len(l) == length {
			do(l)
			return
		}
		for _, x := range items {
			fill(append(l, x))
		}
	}
	fill(make([]T, 0, length))
}

// Rows of two items, their numbers of few bytes each: short ones, long ones, those that are none.
func TestRowsOfTwo(t *testing.T) {
	items := [][]byte{{0}, {1}, {2}, {3}, {127}, {128, 4}, {255, 7}, {128, 0}}
	ofOps, ofRuns := 0, 0
	allLists(6, items, func(l [][]byte) {
		b := append([]byte{2}, bytes.Join(l, nil)...)
		if records.wantRead(t, "two", b) {
			ofOps++
		}
		if snapshots.wantRead(t, "two", b) {
			ofRuns++
		}
	})
	if ofOps < 4000 || ofRuns < 4000 {
		t.Errorf("only %d rows say changes, %d runs", ofOps, ofRuns)
	}
}

// apart tells each list of few small items; no two have the same bytes.
func (s side[T]) apart(t *testing.T, items []T, longest int) {
	t.Helper()
	seen := map[string][]T{}
	for length := range longest + 1 {
		allLists(length, items, func(l []T) {
			if !s.wantEither(t, "a small list", l) {
				return
			}
			b := string(must(s.tell(l)))
			if other, ok := seen[b]; ok {
				t.Fatalf("P11.3: %v and %v have the same bytes: %v", l, other, []byte(b))
			}
			seen[b] = slices.Clone(l)
		})
	}
	if len(seen) < 300 {
		t.Errorf("only %d small lists are told", len(seen))
	}
}

func TestSmallListsHaveDifferentBytes(t *testing.T) {
	var ops []api.Op
	var l []api.Run
	for lba := range 3 {
		for n := range 3 {
			for phys := -1; phys < 3; phys++ {
				ops = append(ops, api.Op{Lba: lba, Len: n, Phys: phys})
				l = append(l, api.Run{Lba: 2 * lba, Len: n, Phys: phys})
			}
		}
	}
	records.apart(t, ops, 3)
	snapshots.apart(t, l, 3)
}

func TestLongLists(t *testing.T) {
	d := dice(1)
	for range 1500 {
		records.wantTaken(t, "any changes", d.ops(d.roll(1+d.roll(513))))
		snapshots.wantTaken(t, "any runs", d.runs(1+d.roll(1+d.roll(512))))
	}
}

// Any bytes, most of them small, behind a count of few.
func TestManyBytes(t *testing.T) {
	d := dice(5)
	ofOps, ofRuns := 0, 0
	for range 200000 {
		n := d.roll(5)
		b := []byte{byte(n)}
		for range 3 * n {
			v := uint64(d.roll(1 << d.roll(14)))
			if d.roll(40) == 0 {
				v = edges()[d.roll(len(edges()))]
			}
			b = binary.AppendUvarint(b, v)
		}
		if d.roll(20) == 0 {
			b[d.roll(len(b))] = byte(d.roll(256))
		}
		if records.wantRead(t, "any bytes", b) && n > 1 {
			ofOps++
		}
		if snapshots.wantRead(t, "any bytes", b) && n > 1 {
			ofRuns++
		}
	}
	if ofOps < 4000 || ofRuns < 4000 {
		t.Errorf("only %d rows say changes, %d runs", ofOps, ofRuns)
	}
}

// Many bytes that never say a list: the call ends, and soon.
func TestFarTooManyBytes(t *testing.T) {
	for _, x := range []byte{0, 1, 127, 128, 255} {
		for _, count := range [][]byte{nil, {0}, {1}, {128, 4}, {129, 4}, {255, 255, 255, 255, 255, 255, 255, 255, 127}, {255, 255, 255, 255, 255, 255, 255, 255, 255, 1}} {
			b := append(bytes.Clone(count), bytes.Repeat([]byte{x}, 1<<20)...)
			records.wantNone(t, "far too many", b)
			snapshots.wantNone(t, "far too many", b)
		}
	}
}
