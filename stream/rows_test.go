package stream

import (
	"testing"

	"ferrule/api"
)

// Each row of few small commands, a refused one among them.
func TestEverySmallRow(t *testing.T) {
	few := [][2]int{{0, 1}, {0, 2}, {1, 1}, {2, 1}, {1, 0}, {9, 1}}
	for _, k := range []struct{ streams, length int }{{1, 5}, {2, 5}, {3, 5}, {4, 4}, {16, 4}} {
		rows := 1
		for range k.length {
			rows *= len(few)
		}
		for row := range rows {
			b := newBoth(t, k.streams)
			for range k.length {
				c := few[row%len(few)]
				b.feed(c[0], c[1])
				row /= len(few)
			}
		}
	}
}

// feedAny hands in any small command, often one that goes on, sometimes a refused one.
func (b *both) feedAny(d *dice) api.Errno {
	b.t.Helper()
	lba, n := d.roll(12), 1+d.roll(4)
	switch expects := b.plain.expects(); d.roll(8) {
	case 0, 1:
		lba = expects[d.roll(len(expects))]
	case 2: // so that it ends where a stream goes on
		lba = max(0, expects[d.roll(len(expects))]-n)
	case 3:
		lba, n = edges[d.roll(len(edges))], edges[d.roll(len(edges))]
	}
	_, e := b.feed(lba, n)
	return e
}

// Any rows of commands.
func TestManyRows(t *testing.T) {
	d := dice(14)
	taken, refused := 0, 0
	for i := range 600 {
		streams := 1 + d.roll(16)
		if i%2 == 0 {
			streams = []int{1, 2, 3, 4, 16}[i/2%5]
		}
		b := newBoth(t, streams)
		for range 10 + d.roll(90) {
			if b.feedAny(&d) == api.OK {
				taken++
			} else {
				refused++
			}
		}
	}
	if taken < 10000 || refused < 1000 {
		t.Errorf("%d were taken, %d refused", taken, refused)
	}
}

// Commands of several that each go on, mixed in any order: while there are no more
// of them than streams, each has a stream of its own.
func TestMixedStreams(t *testing.T) {
	d := dice(15)
	for streams := 1; streams <= 16; streams++ {
		for of := 1; of <= streams; of++ {
			b := newBoth(t, streams)
			next, own, long := make([]int, of), make([]int, of), make([]int, of)
			for range 60 {
				i, n := d.roll(of), 1+d.roll(9)
				s, _ := b.feed(1000*i+next[i], n)
				if long[i] == 0 {
					own[i] = s
				}
				next[i] += n
				long[i]++
				if got, e := b.d.Long(s); s != own[i] || got != long[i] || e != api.OK {
					t.Fatalf("P14.2: %d streams: the one of %d: %d, long %d, %d; want %d, long %d", streams, i, s, got, e, own[i], long[i])
				}
			}
		}
	}
}
