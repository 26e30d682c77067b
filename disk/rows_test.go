package disk

import (
	"fmt"
	"math"
	"strings"
	"testing"

	"ferrule/api"
	"ferrule/dev"
	"ferrule/model"
	"ferrule/size"
)

// dice roll numbers, the same ones for the same seed.
type dice struct{ state uint64 }

func (d *dice) roll(n int) int {
	d.state = d.state*6364136223846793005 + 1442695040888963407
	return int(d.state>>33) % n
}

func pick[T any](d *dice, l []T) T { return l[d.roll(len(l))] }

// text rolls so many bytes, noughts and bytes 255 among them.
func (d *dice) text(n int) string {
	b := make([]byte, n)
	for i := range b {
		b[i] = "\x00\x01aZ\x7f\x80\xfe\xff"[d.roll(8)]
	}
	return string(b)
}

// far are numbers that are wrong somewhere, and those at the ends of int; of some the
// thirty-twofold, or the sum with another one, wraps round to a small number.
var far = []int{
	math.MinInt, math.MinInt + 1, -1 << 59, -1 << 58, -1 << 32, -1 << 31, -513, -1,
	513, 1 << 16, 1<<31 - 1, 1 << 31, 1 << 32, 1<<32 + 1, 1 << 58, 1<<59 - 1, 1 << 59, 1<<59 + 1, 1 << 62, math.MaxInt - 1, math.MaxInt,
}

// example is the Config of chapter 18's examples.
var example = api.Config{Blocks: 40, Pages: 8, Capacity: 48, Spare: 2, MaxRuns: 48, Window: 8}

// fitted gives a Config the greatest capacity with which it may be, and then the
// least MaxRuns: so that there is as little room as can be.
func fitted(blocks, pages, spare, window int) api.Config {
	best := api.Config{}
	for n := window; n <= api.MaxCapacity; n++ {
		c := api.Config{Blocks: blocks, Pages: pages, Capacity: n, Spare: spare, MaxRuns: 1, Window: window}
		for c.MaxRuns < api.MaxRuns && !size.Good(c) {
			c.MaxRuns++
		}
		if size.Good(c) {
			best = c
		}
	}
	return best
}

// configs are Configs of several sizes.
func configs() []api.Config {
	return []api.Config{example, fitted(40, 4, 0, 4), fitted(32, 8, 1, 8), fitted(36, 5, 2, 5)}
}

// bothKinds are a Config on runs and flat.
func bothKinds(c api.Config) []api.Config {
	other := c
	other.Flat = !c.Flat
	return []api.Config{c, other}
}

func name(c api.Config) string {
	return fmt.Sprintf("%d-%d-%d-%d-%d-%d-%v", c.Blocks, c.Pages, c.Capacity, c.Spare, c.MaxRuns, c.Window, c.Flat)
}

func noughts(sectors int) string { return strings.Repeat("\x00", 32*sectors) }

func formatted(t *testing.T, c api.Config) *dev.Device {
	t.Helper()
	d, e := dev.Format(c)
	if e != api.OK {
		t.Fatalf("the tests' own Config: %v", c)
	}
	return d
}

// opened is a device over a copy of another one's flash.
func opened(t *testing.T, d *dev.Device) *dev.Device {
	t.Helper()
	o, e := dev.Open(d.Config(), d.Image(), -1)
	if e != api.OK {
		t.Fatalf("P18.1: Open: %d", e)
	}
	return o
}

// off is a new device with its power off.
func off(t *testing.T, c api.Config) *dev.Device {
	t.Helper()
	d := formatted(t, c)
	d.Write(0, 2, "was here")
	d.Cut(0)
	if d.Trim(0, 1) != api.EOFF || d.Power() {
		t.Fatalf("P18.4: a cut at 0, and the power is on")
	}
	return d
}

func array(t *testing.T, capacity int) *model.Array {
	t.Helper()
	a, e := model.New(capacity)
	if e != api.OK {
		t.Fatalf("the tests' own capacity: %d", capacity)
	}
	return a
}

// written writes a disk full: no sector of it is like another one, and none is the
// same for two seeds.
func written[D Disk](t *testing.T, d D, seed int) D {
	t.Helper()
	n := Sectors(d)
	var b strings.Builder
	for i := range n {
		fmt.Fprintf(&b, "%-31s\x00", fmt.Sprintf("seed %d, sector %d", seed, i))
	}
	if e := d.Write(0, n, b.String()); e != api.OK {
		t.Fatalf("Write(0, %d): %d", n, e)
	}
	return d
}

// told is a call that changes a disk.
type told struct {
	what   string
	lba, n int
	data   string
}

func (c told) String() string { return fmt.Sprintf("%s %d %d %.40q", c.what, c.lba, c.n, c.data) }

// mine is a disk of the tests' own: its Content is as they set it, and each call is
// answered with an error, if they set that. It keeps what it was told, taken or not.
type mine struct {
	content           string
	badRead, badWrite api.Errno
	reads             int
	all               []told
}

func (m *mine) Read(lba, n int) (string, api.Errno) {
	m.reads++
	if m.badRead != api.OK {
		// What stands beside an error is nobody's business.
		return "beside an error", m.badRead
	}
	p := plain(m.content)
	return p.read(lba, n)
}

func (m *mine) Write(lba, n int, data string) api.Errno {
	m.all = append(m.all, told{"write", lba, n, data})
	return m.change(lba, n, data)
}

func (m *mine) Trim(lba, n int) api.Errno {
	m.all = append(m.all, told{"trim", lba, n, ""})
	return m.change(lba, n, "")
}

func (m *mine) change(lba, n int, data string) api.Errno {
	if m.badWrite != api.OK {
		return m.badWrite
	}
	p := plain(m.content)
	e := p.write(lba, n, data)
	m.content = string(p)
	return e
}

func (m *mine) Content() string { return m.content }
