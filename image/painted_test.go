package image_test

import (
	"slices"
	"testing"

	"ferrule/api"
	"ferrule/delta"
	"ferrule/image"
	"ferrule/leaf"
	"ferrule/span"
)

// rolledRuns rolls a snapshot's runs, at times behind the capacity or the flash.
func (d *dice) rolledRuns(c api.Config) []api.Run {
	var pieces []api.Piece
	for lba := d.roll(4); lba < c.Capacity-2; lba += 2 + d.roll(c.Capacity/3) {
		pieces = append(pieces, api.Piece{Lba: lba, Len: 1 + d.roll(2), Phys: d.roll(60)})
	}
	if d.one(10) {
		pieces = append(pieces, api.Piece{Lba: c.Capacity - 3 + d.roll(5), Len: 1 + d.roll(3), Phys: 4})
	}
	if d.one(10) {
		pieces = append(pieces, api.Piece{Lba: d.roll(c.Capacity - 2), Len: 1 + d.roll(3), Phys: c.Blocks*c.Pages - 2 + d.roll(3)})
	}
	return span.Fold(pieces)
}

// rolledOps rolls a record's changes, at times some that are not right, or so many
// that too many runs come of them.
func (d *dice) rolledOps(c api.Config) []api.Op {
	var ops []api.Op
	for range d.roll(5) {
		ops = append(ops, api.Op{Lba: d.roll(c.Capacity - 1), Len: 1 + d.roll(2), Phys: d.roll(61) - 1})
	}
	if d.one(8) {
		for lba := 0; lba < c.Capacity; lba += 1 + d.roll(3) {
			ops = append(ops, api.Op{Lba: lba, Len: 1, Phys: d.roll(60)})
		}
	}
	if d.one(12) {
		ops = append(ops, api.Op{Lba: d.roll(c.Capacity), Len: 1 + d.roll(c.Capacity), Phys: d.roll(2) - 1})
	}
	if d.one(16) {
		ops = append(ops, api.Op{Lba: d.roll(c.Capacity), Len: d.roll(2), Phys: c.Blocks*c.Pages - 2 + d.roll(4)})
	}
	return ops
}

// rolledStream rolls a snapshot or a record of any group, and an epoch from low on, at
// times with bytes that are neither.
func (d *dice) rolledStream(c api.Config, low uint32) leaf.Stream {
	s := leaf.Stream{Kind: api.Snap, Epoch: low + uint32(d.roll(3)/2)}
	if d.one(4) {
		s.Group = []uint32{1, 2, 1<<32 - 1}[d.roll(3)]
	}
	if d.one(6) {
		s.Bytes, _ = delta.Snapshot(d.rolledRuns(c))
	} else {
		s.Kind, s.Group = api.Log, []uint32{0, 1, 2, 3, 255, 256, 1<<32 - 1}[d.roll(7)]
		s.Bytes, _ = delta.Record(d.rolledOps(c))
	}
	if d.one(8) {
		s.Bytes = d.junk(s.Bytes)
	}
	return s
}

// junk spoils bytes.
func (d *dice) junk(b []byte) []byte {
	b = slices.Clone(b)
	switch d.roll(4) {
	case 0:
		return b[:d.roll(len(b)+1)]
	case 1:
		return append(b, byte(d.roll(3)))
	case 2:
		return nil
	}
	if len(b) > 0 {
		b[d.roll(len(b))] = byte(d.roll(256))
	}
	return b
}

// rolledPages cuts a stream into its pages, at times with one less, with one twice,
// or with one that contradicts the others.
func (d *dice) rolledPages(s leaf.Stream) []api.Page {
	l, e := leaf.Cut(s)
	if e != api.OK {
		panic(e)
	}
	i := d.roll(len(l))
	switch d.roll(16) {
	case 0:
		return slices.Delete(l, i, i+1)
	case 1, 2:
		return append(l, l[i])
	case 3:
		p := l[i]
		d.change(&p)
		return append(l, p)
	case 4:
		d.change(&l[i])
	}
	return l
}

// painted lays pages that no device wrote: those of data ahead, the others behind them
// in any order.
func (d *dice) painted(c api.Config) []byte {
	var l []api.Page
	low := []uint32{0, 1, 255, 1<<16 - 1, 1<<32 - 2, 1<<32 - 1}[d.roll(6)]
	if !d.one(5) { // else there is none, for the most part
		b, _ := delta.Snapshot(d.rolledRuns(c))
		l = d.rolledPages(leaf.Stream{Kind: api.Snap, Epoch: low, Bytes: b})
	}
	for range 1 + d.roll(8) {
		s := d.rolledStream(c, low)
		l = append(l, d.rolledPages(s)...)
		if d.one(12) { // another one of the same kind, epoch and group
			s.Bytes = d.rolledStream(c, low).Bytes
			l = append(l, d.rolledPages(s)...)
		}
	}
	can := canvasOf(c, 62)
	for i := range 60 {
		can.data(i, d.roll(c.Capacity), string(byte(i)))
	}
	free := c.Blocks*c.Pages - can.at - len(l)
	for range len(l) {
		i := d.roll(len(l))
		can.put(can.at, l[i])
		l = slices.Delete(l, i, i+1)
		if step := d.roll(9); free >= step {
			can.at, free = can.at+step, free-step
		}
		can.at++
	}
	return can.img
}

// fill lays, ahead of the streams' pages, the data that a map names.
func fill(c api.Config, img []byte) {
	can := canvas{img: img}
	_, table, _ := plainly(c, img).read()
	for lba, phys := range table {
		if phys >= 0 && phys < 62 {
			can.data(phys, lba, string(byte(lba)))
		}
	}
}

// P19.1 to P19.3: images that no device wrote.
func TestPainted(t *testing.T) {
	t.Parallel()
	errors := map[[2]api.Errno]int{}
	records := map[int]int{}
	for i, c := range []api.Config{config, few} {
		d := &dice{uint64(100 + i)}
		for range 1500 {
			img := d.painted(c)
			if d.one(2) {
				fill(c, img)
			}
			if d.one(5) {
				d.spoil(c, img)
			}
			read, e := sound(t, "painted", c, img)
			_, f := image.Content(c, img)
			errors[[2]api.Errno{e, f}]++
			records[read.Records]++
		}
	}
	for _, e := range [][2]api.Errno{{}, {api.OK, api.ECRC}, {api.ELOST, api.ELOST}, {api.EFORM, api.EFORM}} {
		if errors[e] < 200 {
			t.Errorf("the images are too much alike: %v", errors)
		}
	}
	if records[1] < 200 || records[2] < 100 || records[3] < 50 {
		t.Errorf("the images have too few records: %v", records)
	}
}
