package delta

import (
	"bytes"
	"encoding/binary"
	"math/big"
	"slices"
	"testing"

	"ferrule/api"
	"ferrule/span"
)

// opList tells changes, three numbers each.
func opList(n ...int) []api.Op {
	var l []api.Op
	for c := range slices.Chunk(n, 3) {
		l = append(l, api.Op{Lba: c[0], Len: c[1], Phys: c[2]})
	}
	return l
}

// runList tells runs, three numbers each.
func runList(n ...int) []api.Run {
	var l []api.Run
	for c := range slices.Chunk(n, 3) {
		l = append(l, api.Run{Lba: c[0], Len: c[1], Phys: c[2]})
	}
	return l
}

// side is what Record and Changes, Snapshot and Runs have in common: a way from
// a list to bytes and one back, and both by chapter 11's words.
type side[T comparable] struct {
	promise   string
	tell      func([]T) ([]byte, api.Errno)
	read      func([]byte) ([]T, api.Errno)
	takes     func([]T) bool
	plainTell func([]T) []byte
	plainRead func([]byte) ([]T, bool)
	any       T // one that stands nowhere else: what is handed in is hemmed in by it
}

var records = side[api.Op]{"P11.1", Record, Changes, takesOps, plainRecord, plainChanges, api.Op{Lba: 71, Len: 72, Phys: 73}}
var snapshots = side[api.Run]{"P11.2", Snapshot, Runs, takesRuns, plainSnapshot, plainRuns, api.Run{Lba: 71, Len: 72, Phys: 73}}

// takesOps is P11.1's words.
func takesOps(ops []api.Op) bool {
	if len(ops) > 512 {
		return false
	}
	return !slices.ContainsFunc(ops, func(o api.Op) bool {
		return o.Lba < 0 || o.Lba > 512 || o.Len < 0 || o.Len > 512 || o.Phys < -1 || o.Phys > 1048576
	})
}

// takesRuns is P11.2's words: in their form no number is above 2^30.
func takesRuns(l []api.Run) bool {
	if len(l) > 512 || !span.Form(l) {
		return false
	}
	return !slices.ContainsFunc(l, func(r api.Run) bool { return r.Lba+r.Len > 512 || r.Phys > 1048576 })
}

// plainRecord is the words of a record's bytes, of changes that may be told.
func plainRecord(ops []api.Op) []byte {
	b := binary.AppendUvarint(nil, uint64(len(ops)))
	for i, o := range ops {
		ended := 0
		if i > 0 {
			ended = ops[i-1].Lba + ops[i-1].Len
		}
		b = binary.AppendVarint(b, int64(o.Lba-ended))
		b = binary.AppendUvarint(b, uint64(o.Len))
		b = binary.AppendVarint(b, plainStep(ops[:i], o.Phys))
	}
	return b
}

// plainStep is the words `of a Phys`.
func plainStep(ahead []api.Op, phys int) int64 {
	if phys == -1 {
		return 0
	}
	ended := 0
	for _, o := range ahead {
		if o.Phys >= 0 {
			ended = o.Phys + o.Len
		}
	}
	d := int64(phys - ended)
	if d >= 0 {
		return d + 1
	}
	return d
}

// plainSnapshot is the words of a snapshot's bytes, of runs that may be told.
func plainSnapshot(l []api.Run) []byte {
	b := binary.AppendUvarint(nil, uint64(len(l)))
	for i, r := range l {
		var ahead api.Run
		if i > 0 {
			ahead = l[i-1]
		}
		b = binary.AppendUvarint(b, uint64(r.Lba-ahead.Lba-ahead.Len))
		b = binary.AppendUvarint(b, uint64(r.Len-1))
		b = binary.AppendVarint(b, int64(r.Phys-ahead.Phys-ahead.Len))
	}
	return b
}

// numbersOf reads bytes as nothing but numbers, each in its fewest bytes.
func numbersOf(b []byte) ([]uint64, bool) {
	var l []uint64
	for len(b) > 0 {
		v, n := binary.Uvarint(b)
		if n <= 0 || n > 1 && b[n-1] == 0 {
			return nil, false
		}
		l = append(l, v)
		b = b[n:]
	}
	return l, true
}

// triples reads how many there are, and three numbers for each.
func triples(b []byte) ([][]uint64, bool) {
	l, ok := numbersOf(b)
	if !ok || len(l) == 0 || l[0] > 512 || uint64(len(l)) != 1+3*l[0] {
		return nil, false
	}
	return slices.Collect(slices.Chunk(l[1:], 3)), true
}

// unsigned tells a number, one without bounds.
func unsigned(u uint64) *big.Int { return new(big.Int).SetUint64(u) }

// signed tells the int that a number stands for, one without bounds.
func signed(u uint64) *big.Int {
	v := unsigned(u / 2)
	if u%2 == 1 {
		v.Neg(v)
		v.Sub(v, big.NewInt(1))
	}
	return v
}

// inside tells whether a number without bounds lies from one to another.
func inside(v *big.Int, least, most int64) bool {
	return v.Cmp(big.NewInt(least)) >= 0 && v.Cmp(big.NewInt(most)) <= 0
}

// plainChanges reads a record by its words, with numbers without bounds.
func plainChanges(b []byte) ([]api.Op, bool) {
	rows, ok := triples(b)
	if !ok {
		return nil, false
	}
	var l []api.Op
	lba, phys := new(big.Int), new(big.Int)
	for _, row := range rows {
		lba.Add(lba, signed(row[0]))
		n, step := unsigned(row[1]), signed(row[2])
		if !inside(lba, 0, 512) || !inside(n, 0, 512) {
			return nil, false
		}
		o := api.Op{Lba: int(lba.Int64()), Len: int(n.Int64()), Phys: -1}
		if step.Sign() != 0 {
			if step.Sign() > 0 {
				step.Sub(step, big.NewInt(1))
			}
			phys.Add(phys, step)
			if !inside(phys, 0, 1048576) {
				return nil, false
			}
			o.Phys = int(phys.Int64())
			phys.Add(phys, n)
		}
		lba.Add(lba, n)
		l = append(l, o)
	}
	return l, true
}

// plainRuns reads a snapshot by its words, with numbers without bounds.
func plainRuns(b []byte) ([]api.Run, bool) {
	rows, ok := triples(b)
	if !ok {
		return nil, false
	}
	var l []api.Run
	lba, phys := new(big.Int), new(big.Int)
	for _, row := range rows {
		lba.Add(lba, unsigned(row[0]))
		n := unsigned(row[1])
		n.Add(n, big.NewInt(1))
		phys.Add(phys, signed(row[2]))
		if !inside(lba, 0, 512) || !inside(n, 1, 512) || !inside(phys, 0, 1048576) {
			return nil, false
		}
		l = append(l, api.Run{Lba: int(lba.Int64()), Len: int(n.Int64()), Phys: int(phys.Int64())})
		lba.Add(lba, n)
		phys.Add(phys, n)
	}
	return l, takesRuns(l)
}

// The helpers end a test at its first fault: it goes through so much that all
// of its faults would be too many to tell.

// asks hands a list in, with others on both sides of it, and looks that nothing of it was changed.
func asks[T comparable, A any](t *testing.T, name string, l []T, other T, call func([]T) (A, api.Errno)) (A, api.Errno) {
	t.Helper()
	room := slices.Concat([]T{other}, l, []T{other, other})
	was := slices.Clone(room)
	a, e := call(room[1 : 1+len(l)])
	if !slices.Equal(room, was) {
		t.Fatalf("R4: %s: what was handed in, or what stands beside it, was changed: %v, was %v", name, room, was)
	}
	return a, e
}

// wantTold holds what is told of a list against bytes, and what is read of them against the list.
func (s side[T]) wantTold(t *testing.T, name string, l []T, want []byte) {
	t.Helper()
	if !s.takes(l) || !bytes.Equal(s.plainTell(l), want) {
		t.Fatalf("%s: the plain words tell %v otherwise than %v: %v", name, l, want, s.plainTell(l))
	}
	if b, e := asks(t, name, l, s.any, s.tell); !bytes.Equal(b, want) || e != api.OK {
		t.Fatalf("%s: %s: of %v were told %v, %d; want %v", s.promise, name, l, b, e, want)
	}
	if got, e := asks(t, name, want, 173, s.read); !slices.Equal(got, l) || e != api.OK {
		t.Fatalf("P11.3: %s: of %v were read %v, %d; want %v", name, want, got, e, l)
	}
}

// wantTaken is wantTold with the bytes of the plain words.
func (s side[T]) wantTaken(t *testing.T, name string, l []T) {
	t.Helper()
	if !s.takes(l) {
		t.Fatalf("%s: the plain words do not take %v", name, l)
	}
	s.wantTold(t, name, l, s.plainTell(l))
}

// wantRefused holds what is told of a list against EARG, and nothing beside it.
func (s side[T]) wantRefused(t *testing.T, name string, l []T) {
	t.Helper()
	if s.takes(l) {
		t.Fatalf("%s: the plain words take %v", name, l)
	}
	if b, e := asks(t, name, l, s.any, s.tell); len(b) != 0 || e != api.EARG {
		t.Fatalf("%s, R2: %s: of %v were told %v, %d; want none, EARG", s.promise, name, l, b, e)
	}
}

// wantEither is wantTaken or wantRefused, as the plain words say.
func (s side[T]) wantEither(t *testing.T, name string, l []T) (taken bool) {
	t.Helper()
	if s.takes(l) {
		s.wantTaken(t, name, l)
		return true
	}
	s.wantRefused(t, name, l)
	return false
}

// wantNone holds what is read of bytes against EFORM, and nothing beside it.
func (s side[T]) wantNone(t *testing.T, name string, b []byte) {
	t.Helper()
	if l, ok := s.plainRead(b); ok {
		t.Fatalf("%s: the plain words read %v as %v", name, b, l)
	}
	if l, e := asks(t, name, b, 173, s.read); len(l) != 0 || e != api.EFORM {
		t.Fatalf("%s, R2: %s: of %v were read %v, %d; want none, EFORM", s.promise, name, b, l, e)
	}
}

// wantRead holds what is read of any bytes against the plain words: EFORM, or a
// list of which just these bytes are told.
func (s side[T]) wantRead(t *testing.T, name string, b []byte) (read bool) {
	t.Helper()
	want, ok := s.plainRead(b)
	if !ok {
		s.wantNone(t, name, b)
		return false
	}
	s.wantTold(t, name, want, b)
	return true
}
