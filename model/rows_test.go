package model

import (
	"math"
	"slices"
	"testing"

	"ferrule/api"
)

// anyRange rolls a range, a right one most often.
func (d *dice) anyRange(capacity int) (lba, n int) {
	switch d.roll(12) {
	case 0:
		return d.roll(capacity+4) - 2, d.roll(capacity+4) - 2
	case 1:
		return ends[d.roll(len(ends))], d.roll(4)
	case 2:
		return d.roll(capacity), ends[d.roll(len(ends))]
	case 3:
		return 0, capacity
	case 4:
		lba = d.roll(capacity)
		return lba, capacity - lba
	}
	lba = d.roll(capacity)
	return lba, 1 + d.roll(capacity-lba)
}

// anyData rolls data for n sectors: none, less, as much, or more.
func (d *dice) anyData(n int) string {
	whole := 32 * max(0, min(n, 512))
	switch d.roll(6) {
	case 0:
		return ""
	case 1:
		return d.text(whole)
	case 2:
		return d.text(whole + 1 + d.roll(70))
	case 3:
		return d.text(max(0, whole-1-d.roll(3)))
	}
	return d.text(d.roll(whole + 1))
}

// changeAny hands in any write or trim, sometimes a refused one.
func (b *both) changeAny(d *dice) api.Errno {
	b.t.Helper()
	lba, n := d.anyRange(b.plain.capacity)
	if d.roll(3) == 0 {
		return b.trim(lba, n)
	}
	return b.write(lba, n, d.anyData(n))
}

// Each row of few small commands, refused ones among them.
func TestEverySmallRow(t *testing.T) {
	long := "\x01\x02\xff" + noughts(1) + "\x04" + noughts(2) + "\x05"
	few := []func(b *both){
		func(b *both) { b.write(0, 1, "a\xff") },
		func(b *both) { b.write(0, 2, long) },
		func(b *both) { b.write(1, 2, "") },
		func(b *both) { b.write(1, 2, long[:64]) },
		func(b *both) { b.write(2, 1, long[2:]) },
		func(b *both) { b.trim(0, 1) },
		func(b *both) { b.trim(1, 2) },
		func(b *both) { b.write(2, 2, "no") },
		func(b *both) { b.trim(1, math.MaxInt) },
	}
	const length = 4
	rows := 1
	for range length {
		rows *= len(few)
	}
	for row := range rows {
		b := newBoth(t, 3)
		for range length {
			few[row%len(few)](b)
			row /= len(few)
		}
	}
}

// Any rows of commands, of many seeds.
func TestManyRows(t *testing.T) {
	taken, refused := 0, 0
	for seed := range 400 {
		d := dice(seed)
		capacity := 1 + d.roll(9)
		b := newBoth(t, capacity)
		for range 10 + d.roll(30) {
			if b.changeAny(&d) == api.OK {
				taken++
			} else {
				refused++
			}
		}
	}
	if taken < 6000 || refused < 1000 {
		t.Errorf("%d were taken, %d refused", taken, refused)
	}
}

// Any rows of commands on great arrays.
func TestManyGreatRows(t *testing.T) {
	for seed, capacity := range []int{511, 512, 512, 300, 100, 33, 32, 31} {
		d := dice(1000 + seed)
		b := newBoth(t, capacity)
		for range 30 {
			b.changeAny(&d)
		}
	}
}

// Any commands on several arrays, copies of one another or not, of any capacities:
// each minds its own commands alone, and Differs tells where two of them differ.
func TestManyCopies(t *testing.T) {
	same, other, apart := 0, 0, 0
	for seed := range 150 {
		d := dice(2000 + seed)
		all := []*both{newBoth(t, 1+d.roll(6)), newBoth(t, 1+d.roll(6)), newBoth(t, 1+d.roll(6))}
		for range 25 {
			at := d.roll(len(all))
			if d.roll(4) == 0 {
				all[d.roll(len(all))] = all[at].copy()
			}
			all[at].changeAny(&d)
			for _, b := range all {
				b.look()
			}
			b, c := all[d.roll(len(all))], all[d.roll(len(all))]
			want := b.plain.differs(c.plain)
			b.wantsDiffers(c, want...)
			switch {
			case b.plain.capacity != c.plain.capacity:
				apart++
			case len(want) > 0:
				other++
			default:
				same++
			}
			if !slices.IsSorted(want) {
				t.Fatalf("the plain form: differs: %v", want)
			}
		}
	}
	if same < 300 || other < 300 || apart < 300 {
		t.Errorf("%d the same, %d not, %d of two capacities", same, other, apart)
	}
}
