package vol

import (
	"fmt"
	"math"
	"strings"
	"testing"

	"ferrule/api"
	"ferrule/dev"
	"ferrule/disk"
	"ferrule/model"
	"ferrule/size"
)

// dice roll numbers, the same ones for the same seed.
type dice struct{ state uint64 }

func (d *dice) roll(n int) int {
	d.state = d.state*6364136223846793005 + 1442695040888963407
	return int(d.state>>33) % n
}

func pick[T any](d *dice, l []T) T { return l[d.roll(len(l))] }

// text rolls so many bytes, noughts and bytes 255 among them.
func (d *dice) text(n int) string {
	b := make([]byte, n)
	for i := range b {
		b[i] = "\x00\x01aZ\x7f\x80\xfe\xff"[d.roll(8)]
	}
	return string(b)
}

// far are numbers that are wrong anywhere, those at the ends of int among them; of some
// the thirty-twofold, or the sum with another one, wraps round to a small number.
var far = []int{
	math.MinInt, math.MinInt + 1, -1 << 59, -1 << 58, -1 << 32, -1 << 31, -513, -1,
	1 << 16, 1<<16 + 1, 1<<31 - 1, 1 << 31, 1 << 32, 1<<32 + 1, 1 << 58, 1<<59 - 1, 1 << 59, 1<<59 + 1, 1 << 62, math.MaxInt - 1, math.MaxInt,
}

// example is the Config of chapter 18's examples.
var example = api.Config{Blocks: 40, Pages: 8, Capacity: 48, Spare: 2, MaxRuns: 48, Window: 8}

// fitted gives a Config the greatest capacity with which it may be, and then the
// least MaxRuns: so that there is as little room as can be.
func fitted(blocks, pages, spare, window int) api.Config {
	best := api.Config{}
	for n := window; n <= api.MaxCapacity; n++ {
		c := api.Config{Blocks: blocks, Pages: pages, Capacity: n, Spare: spare, MaxRuns: 1, Window: window}
		for c.MaxRuns < api.MaxRuns && !size.Good(c) {
			c.MaxRuns++
		}
		if size.Good(c) {
			best = c
		}
	}
	return best
}

// configs are Configs of several sizes.
func configs() []api.Config {
	return []api.Config{example, fitted(52, 4, 0, 4), fitted(32, 8, 1, 8), fitted(46, 5, 2, 5)}
}

// bothKinds are a Config on runs and flat.
func bothKinds(c api.Config) []api.Config {
	other := c
	other.Flat = !c.Flat
	return []api.Config{c, other}
}

func name(c api.Config) string {
	return fmt.Sprintf("%d-%d-%d-%d-%d-%d-%v", c.Blocks, c.Pages, c.Capacity, c.Spare, c.MaxRuns, c.Window, c.Flat)
}

func noughts(sectors int) string { return strings.Repeat("\x00", 32*sectors) }

// padded is a text with noughts behind it, so many sectors in all.
func padded(s string, sectors int) string { return (s + noughts(sectors))[:32*sectors] }

func formatted(t *testing.T, c api.Config) *dev.Device {
	t.Helper()
	d, e := dev.Format(c)
	if e != api.OK {
		t.Fatalf("the tests' own Config: %v", c)
	}
	return d
}

// copied is a device over a copy of another one's flash.
func copied(t *testing.T, d *dev.Device) *dev.Device {
	t.Helper()
	o, e := dev.Open(d.Config(), d.Image(), -1)
	if e != api.OK {
		t.Fatalf("P18.1: Open: %d", e)
	}
	return o
}

func array(t *testing.T, capacity int) *model.Array {
	t.Helper()
	a, e := model.New(capacity)
	if e != api.OK {
		t.Fatalf("the tests' own capacity: %d", capacity)
	}
	return a
}

// maker makes a disk whose bytes are all 0.
type maker struct {
	name string
	make func(t *testing.T, c api.Config) disk.Disk
}

// makers make disks of all kinds.
var makers = []maker{
	{"runs", func(t *testing.T, c api.Config) disk.Disk { return formatted(t, c) }},
	{"flat", func(t *testing.T, c api.Config) disk.Disk { return formatted(t, bothKinds(c)[1]) }},
	{"array", func(t *testing.T, c api.Config) disk.Disk { return array(t, c.Capacity) }},
	{"mine", func(t *testing.T, c api.Config) disk.Disk { return blank(c.Capacity) }},
}

func open(t *testing.T, d disk.Disk) *Store {
	t.Helper()
	s, e := Open(d)
	if e != api.OK || s == nil {
		t.Fatalf("P25.1: Open: %v, %d", s, e)
	}
	return s
}

// must asks that a call of the tests' own answers OK.
func must(t *testing.T, e api.Errno) {
	t.Helper()
	if e != api.OK {
		t.Fatalf("a call that the test needs: %d", e)
	}
}

// wantVolumes holds what a Store tells of its volumes against a list, as by Sprint.
func wantVolumes(t *testing.T, s *Store, list string, free int) {
	t.Helper()
	if got := fmt.Sprint(s.Volumes()); got != list || s.Free() != free {
		t.Errorf("P25.1: Volumes: %.300s, Free: %d; want %.300s, %d", got, s.Free(), list, free)
	}
}

// wantAlso holds it, and what a Store that is opened anew tells.
func wantAlso(t *testing.T, s *Store, d disk.Disk, list string, free int) {
	t.Helper()
	wantVolumes(t, s, list, free)
	wantVolumes(t, open(t, d), list, free)
}

// told is a command that a disk was told.
type told struct {
	what   string
	lba, n int
	data   string
}

func (c told) String() string { return fmt.Sprintf("%s %d %d %.80q", c.what, c.lba, c.n, c.data) }

// mine is a disk of the tests' own. It keeps what it was told, taken or not. With a
// number of commands set, that many go well, and all behind them, or the next one
// alone, are answered with an error, and not done.
type mine struct {
	content string
	left    int // below 0: all go well
	once    bool
	e       api.Errno
	reads   []told
	changes []told
}

// blank is one of noughts, whose commands all go well.
func blank(sectors int) *mine { return &mine{content: noughts(sectors), left: -1} }

func (m *mine) refuses() bool {
	if m.left < 0 {
		return false
	}
	if m.left > 0 {
		m.left--
		return false
	}
	if m.once {
		m.left = -1
	}
	return true
}

func (m *mine) Read(lba, n int) (string, api.Errno) {
	m.reads = append(m.reads, told{"read", lba, n, ""})
	if m.refuses() {
		// What stands beside an error is nobody's business.
		return "beside an error", m.e
	}
	return plainRead(m.content, lba, n)
}

func (m *mine) Write(lba, n int, data string) api.Errno {
	m.changes = append(m.changes, told{"write", lba, n, data})
	return m.change(lba, n, data)
}

func (m *mine) Trim(lba, n int) api.Errno {
	m.changes = append(m.changes, told{"trim", lba, n, ""})
	return m.change(lba, n, "")
}

func (m *mine) change(lba, n int, data string) (e api.Errno) {
	if m.refuses() {
		return m.e
	}
	m.content, e = plainWrite(m.content, lba, n, data)
	return e
}

func (m *mine) Content() string { return m.content }

// forget makes as if it had been told nothing.
func (m *mine) forget() { m.reads, m.changes = nil, nil }
