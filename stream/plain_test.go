package stream

import (
	"math"
	"math/big"
	"slices"
	"testing"

	"ferrule/api"
)

// command is one that was taken, with the stream that it belongs to.
type command struct{ lba, n, stream int }

// plain is a detector by the chapter's words alone: it keeps all commands, and
// nothing else, and asks them each time.
type plain struct {
	streams int
	done    []command
}

// of tells a stream's commands.
func (p *plain) of(stream int) []command {
	var l []command
	for _, c := range p.done {
		if c.stream == stream {
			l = append(l, c)
		}
	}
	return l
}

// used tells when a stream was used last: those that were not used come ahead of
// all, the one with the least number first.
func (p *plain) used(stream int) int {
	for at := len(p.done) - 1; at >= 0; at-- {
		if p.done[at].stream == stream {
			return at
		}
	}
	return stream - p.streams
}

func (p *plain) expects() []int {
	var l []int
	for s := range p.streams {
		at := -1
		if own := p.of(s); len(own) > 0 {
			last := own[len(own)-1]
			at = last.lba + last.n
		}
		l = append(l, at)
	}
	return l
}

func (p *plain) long(stream int) int {
	own := p.of(stream)
	if len(own) == 0 {
		return 0
	}
	count := 1
	for i := len(own) - 1; i > 0 && own[i-1].lba+own[i-1].n == own[i].lba; i-- {
		count++
	}
	return count
}

// right tells whether a command is taken, by whole numbers without bounds.
func right(lba, n int) bool {
	sum := new(big.Int).Add(big.NewInt(int64(lba)), big.NewInt(int64(n)))
	return lba >= 0 && n >= 1 && sum.Cmp(big.NewInt(1<<30)) <= 0
}

// feed tells a command's stream, and keeps it, or tells that it is not taken.
func (p *plain) feed(lba, n int) (int, api.Errno) {
	if !right(lba, n) {
		return 0, api.EARG
	}
	var waiting, all []int
	for s, at := range p.expects() {
		all = append(all, s)
		if at == lba {
			waiting = append(waiting, s)
		}
	}
	byUse := func(a, b int) int { return p.used(a) - p.used(b) }
	stream := slices.MinFunc(all, byUse)
	if len(waiting) > 0 {
		stream = slices.MaxFunc(waiting, byUse)
	}
	p.done = append(p.done, command{lba, n, stream})
	return stream, api.OK
}

// both is a detector beside its plain form.
type both struct {
	t     *testing.T
	d     *Detector
	plain *plain
}

func newBoth(t *testing.T, streams int) *both {
	t.Helper()
	d, e := New(streams)
	if d == nil || e != api.OK {
		t.Fatalf("P14.1: New(%d): %v, %d", streams, d, e)
	}
	b := &both{t, d, &plain{streams: streams}}
	b.look()
	return b
}

// feed hands one command to both, looks at them, and tells the plain form's answer.
func (b *both) feed(lba, n int) (int, api.Errno) {
	b.t.Helper()
	want, wantE := b.plain.feed(lba, n)
	if s, e := b.d.Feed(lba, n); s != want || e != wantE {
		b.t.Fatalf("P14.1: %d streams, behind %v: Feed(%d, %d): %d, %d; want %d, %d", b.plain.streams, b.plain.done, lba, n, s, e, want, wantE)
	}
	b.look()
	return want, wantE
}

// look holds Expects and Long of each stream against the plain form.
func (b *both) look() {
	b.t.Helper()
	if l, want := b.d.Expects(), b.plain.expects(); !slices.Equal(l, want) {
		b.t.Fatalf("P14.2: %d streams, behind %v: Expects: %v; want %v", b.plain.streams, b.plain.done, l, want)
	}
	for s := range b.plain.streams {
		if n, e := b.d.Long(s); n != b.plain.long(s) || e != api.OK {
			b.t.Fatalf("P14.2: %d streams, behind %v: Long(%d): %d, %d; want %d", b.plain.streams, b.plain.done, s, n, e, b.plain.long(s))
		}
	}
}

// wants asks for an answer that is written out: the plain form is held against it, too.
func (b *both) wants(lba, n, stream int) {
	b.t.Helper()
	if s, e := b.feed(lba, n); s != stream || e != api.OK {
		b.t.Fatalf("P14.1: the plain form, behind %v: Feed(%d, %d): %d, %d; want %d", b.plain.done, lba, n, s, e, stream)
	}
}

// wantsLong asks for how long each stream is.
func (b *both) wantsLong(long ...int) {
	b.t.Helper()
	for s, want := range long {
		if n, e := b.d.Long(s); n != want || e != api.OK {
			b.t.Fatalf("P14.2: behind %v: Long(%d): %d, %d; want %d", b.plain.done, s, n, e, want)
		}
	}
}

// wantsExpects asks for what each stream expects.
func (b *both) wantsExpects(expects ...int) {
	b.t.Helper()
	if l := b.d.Expects(); !slices.Equal(l, expects) {
		b.t.Fatalf("P14.2: behind %v: Expects: %v; want %v", b.plain.done, l, expects)
	}
}

const top = 1 << 30 // where a command ends at most

// ends are the ends of int, and numbers of which a part is small.
var ends = []int{
	math.MinInt, math.MinInt + 1, -1 << 62, -1 << 32, -1<<32 + 1, -1 << 31, -top, -2,
	1<<31 - 1, 1 << 31, 1<<31 + 1, 1 << 32, 1<<32 + 1, 1<<32 + 2, 1 << 62, math.MaxInt - 1, math.MaxInt,
}

// dice hands out numbers that hang on a seed alone.
type dice uint64

func (d *dice) roll(n int) int {
	*d = *d*6364136223846793005 + 1442695040888963407
	return int(uint64(*d)>>33) % n
}
