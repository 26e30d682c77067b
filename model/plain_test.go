package model

import (
	"fmt"
	"math"
	"math/big"
	"slices"
	"testing"

	"ferrule/api"
)

// command is a write or (with no data) a trim that was taken.
type command struct {
	lba, n int
	data   string
}

func (c command) String() string { return fmt.Sprintf("(%d %d %q)", c.lba, c.n, c.data) }

// plain is an array by the chapter's words alone: it keeps all commands, and
// nothing else, and asks them each time.
type plain struct {
	capacity int
	done     []command
}

// right tells whether a range is right, by whole numbers without bounds.
func (p *plain) right(lba, n int) bool {
	end := new(big.Int).Add(big.NewInt(int64(lba)), big.NewInt(int64(n)))
	return n >= 1 && lba >= 0 && end.Cmp(big.NewInt(int64(p.capacity))) <= 0
}

// at tells one byte: the last command of whose range it is says it.
func (p *plain) at(i int) byte {
	for _, c := range slices.Backward(p.done) {
		if sector := i / 32; sector < c.lba || sector >= c.lba+c.n {
			continue
		}
		if k := i - 32*c.lba; k < len(c.data) {
			return c.data[k]
		}
		return 0
	}
	return 0
}

// content tells all bytes, one after the other.
func (p *plain) content() string {
	var b []byte
	for i := range 32 * p.capacity {
		b = append(b, p.at(i))
	}
	return string(b)
}

// change keeps a command, or tells that it is not taken.
func (p *plain) change(c command) api.Errno {
	if !p.right(c.lba, c.n) {
		return api.EARG
	}
	p.done = append(p.done, c)
	return api.OK
}

// copy tells another one that was told the same.
func (p *plain) copy() *plain { return &plain{p.capacity, slices.Clone(p.done)} }

// differs asks each byte of each sector that one of the two has.
func (p *plain) differs(q *plain) []int {
	var l []int
	for sector := range 513 {
		mine, yours := sector < p.capacity, sector < q.capacity
		other := mine != yours
		for i := 32 * sector; mine && yours && i < 32*sector+32; i++ {
			other = other || p.at(i) != q.at(i)
		}
		if other {
			l = append(l, sector)
		}
	}
	return l
}

// both is an array beside its plain form.
type both struct {
	t     *testing.T
	a     *Array
	plain *plain
}

func newBoth(t *testing.T, capacity int) *both {
	t.Helper()
	a, e := New(capacity)
	if a == nil || e != api.OK {
		t.Fatalf("P17.1: New(%d): %v, %d", capacity, a, e)
	}
	b := &both{t, a, &plain{capacity: capacity}}
	b.look()
	return b
}

// copy copies both, and looks at what was copied, too.
func (b *both) copy() *both {
	b.t.Helper()
	c := &both{b.t, b.a.Copy(), b.plain.copy()}
	b.look()
	c.look()
	return c
}

// write hands one write to both, looks at them, and tells the plain form's answer.
func (b *both) write(lba, n int, data string) api.Errno {
	b.t.Helper()
	want := b.plain.change(command{lba, n, data})
	if e := b.a.Write(lba, n, data); e != want {
		b.t.Fatalf("P17.2: capacity %d: Write(%d, %d, %q): %d; want %d", b.plain.capacity, lba, n, data, e, want)
	}
	b.look()
	return want
}

// trim hands one trim to both, looks at them, and tells the plain form's answer.
func (b *both) trim(lba, n int) api.Errno {
	b.t.Helper()
	want := b.plain.change(command{lba: lba, n: n})
	if e := b.a.Trim(lba, n); e != want {
		b.t.Fatalf("P17.2: capacity %d: Trim(%d, %d): %d; want %d", b.plain.capacity, lba, n, e, want)
	}
	b.look()
	return want
}

// look holds Content and Read of many ranges against the plain form.
func (b *both) look() {
	b.t.Helper()
	want := b.plain.content()
	if s := b.a.Content(); s != want {
		b.t.Fatalf("P17.3: capacity %d, behind %v: Content: %q; want %q", b.plain.capacity, b.plain.done, s, want)
	}
	// Of a great array the ranges at every lba would be too many.
	step := 1 + b.plain.capacity/32
	for lba := 0; lba < b.plain.capacity; lba += step {
		for n := 1; n <= b.plain.capacity-lba; n += step {
			b.wantsRead(lba, n, want[32*lba:32*(lba+n)])
		}
		b.wantsRead(lba, b.plain.capacity-lba, want[32*lba:])
	}
	b.wantsRead(b.plain.capacity-1, 1, want[len(want)-32:])
	for _, r := range [][2]int{{-1, 1}, {0, 0}, {0, b.plain.capacity + 1}, {b.plain.capacity, 1}, {1, b.plain.capacity}} {
		b.refusesRead(r[0], r[1])
	}
}

// wantsRead asks for a range's bytes that are written out.
func (b *both) wantsRead(lba, n int, want string) {
	b.t.Helper()
	if s, e := b.a.Read(lba, n); s != want || e != api.OK {
		b.t.Fatalf("P17.2: capacity %d, behind %v: Read(%d, %d): %q, %d; want %q", b.plain.capacity, b.plain.done, lba, n, s, e, want)
	}
}

// refusesRead asks for a range that is not right.
func (b *both) refusesRead(lba, n int) {
	b.t.Helper()
	if s, e := b.a.Read(lba, n); s != "" || e != api.EARG {
		b.t.Fatalf("P17.2: capacity %d: Read(%d, %d): %q, %d", b.plain.capacity, lba, n, s, e)
	}
}

// wantsContent asks for all bytes, written out: the plain form is held against them, too.
func (b *both) wantsContent(want string) {
	b.t.Helper()
	b.look()
	if s := b.plain.content(); s != want {
		b.t.Fatalf("the plain form, behind %v: %q; want %q", b.plain.done, s, want)
	}
}

// wantsDiffers asks for where two differ, either way round, and looks at both behind it.
func (b *both) wantsDiffers(c *both, want ...int) {
	b.t.Helper()
	if l := b.a.Differs(c.a); !slices.Equal(l, want) {
		b.t.Fatalf("P17.3: capacities %d, %d: Differs: %v; want %v", b.plain.capacity, c.plain.capacity, l, want)
	}
	if l := c.a.Differs(b.a); !slices.Equal(l, want) {
		b.t.Fatalf("P17.3: capacities %d, %d: Differs: %v; want %v", c.plain.capacity, b.plain.capacity, l, want)
	}
	b.look()
	c.look()
}

// ends are the ends of int, and numbers of which a part is small.
var ends = []int{
	math.MinInt, math.MinInt + 1, -1 << 62, -1 << 59, -1 << 58, -1 << 32, -1<<32 + 1, -1 << 31, -513, -512, -2,
	1<<31 - 1, 1 << 31, 1 << 32, 1<<32 + 1, 1 << 58, 1<<58 + 1, 1 << 59, 1<<59 + 1, 1 << 62, math.MaxInt - 1, math.MaxInt,
}

// dice hands out numbers that hang on a seed alone.
type dice uint64

func (d *dice) roll(n int) int {
	*d = *d*6364136223846793005 + 1442695040888963407
	return int(uint64(*d)>>33) % n
}

// text rolls a text of so many bytes, the bytes 0 and 255 often.
func (d *dice) text(length int) string {
	b := make([]byte, length)
	for i := range b {
		switch d.roll(6) {
		case 0:
			b[i] = 0
		case 1:
			b[i] = 255
		default:
			b[i] = byte(d.roll(256))
		}
	}
	return string(b)
}
