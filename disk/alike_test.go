package disk

import (
	"fmt"
	"slices"
	"strconv"
	"sync/atomic"
	"testing"

	"ferrule/api"
	"ferrule/dev"
)

// call is one of a script's calls; of two disks it names those that it is for.
type call struct {
	what       string
	from, to   int
	lba, n, at int
	data       string
}

func (c call) String() string {
	return fmt.Sprintf("%s of %d and %d: %d %d %d %.40q", c.what, c.from, c.to, c.lba, c.n, c.at, c.data)
}

// answer is what a call answers.
type answer struct {
	bytes string
	same  bool
	e     api.Errno
}

func (a answer) String() string { return fmt.Sprintf("%.80q, %v, %d", a.bytes, a.same, a.e) }

// on makes a call on two disks.
func (c call) on(l []Disk) (a answer) {
	switch c.what {
	case "read":
		a.bytes, a.e = l[c.from].Read(c.lba, c.n)
	case "write":
		a.e = l[c.to].Write(c.lba, c.n, c.data)
	case "trim":
		a.e = l[c.to].Trim(c.lba, c.n)
	case "fill":
		a.e = Fill(l[c.to], c.lba, c.n, c.data)
	case "copy":
		a.e = Copy(l[c.from], l[c.to], c.lba, c.n, c.at)
	case "same":
		a.same, a.e = Same(l[c.from], l[c.to], c.lba, c.n)
	}
	return a
}

// onPlain tells what it should answer, and does it on plain forms.
func (c call) onPlain(l []plain) (a answer) {
	switch c.what {
	case "read":
		a.bytes, a.e = l[c.from].read(c.lba, c.n)
	case "write":
		a.e = l[c.to].write(c.lba, c.n, c.data)
	case "trim":
		a.e = l[c.to].write(c.lba, c.n, "")
	case "fill":
		a.e = l[c.to].fill(c.lba, c.n, c.data)
	case "copy":
		a.e = l[c.from].copyTo(l[c.to], c.lba, c.n, c.at)
	case "same":
		a.same, a.e = l[c.from].same(l[c.to], c.lba, c.n)
	}
	return a
}

// byHand makes it on two devices by their own calls alone.
func (c call) byHand(l []*dev.Device) {
	switch c.what {
	case "write":
		l[c.to].Write(c.lba, c.n, c.data)
	case "trim":
		l[c.to].Trim(c.lba, c.n)
	case "fill":
		if p := plain(l[c.to].Content()); p.fill(c.lba, c.n, c.data) == api.OK {
			l[c.to].Write(c.lba, c.n, string(p[32*c.lba:]))
		}
	case "copy":
		if s, e := l[c.from].Read(c.lba, c.n); e == api.OK {
			l[c.to].Write(c.at, c.n, s)
		}
	}
}

// script rolls calls for two disks of two capacities.
type script struct {
	dice
	capacities [2]int
}

// next rolls a call: a right one most often.
func (s *script) next() call {
	c := call{what: pick(&s.dice, []string{"read", "write", "trim", "fill", "fill", "copy", "copy", "copy", "same", "same"}), from: s.roll(2), to: s.roll(2)}
	capacity := s.capacities[c.to]
	if c.what == "read" || c.what == "copy" || c.what == "same" {
		capacity = s.capacities[c.from]
	}
	c.lba, c.n = s.part(capacity)
	if c.what == "copy" {
		c.at = s.roll(max(1, s.capacities[c.to]-c.n+1))
		if c.from == c.to && s.roll(2) == 0 {
			c.at = max(0, c.lba+s.roll(7)-3)
		}
	}
	if c.what == "write" || c.what == "fill" {
		c.data = s.text(pick(&s.dice, []int{0, 1, 1, 2, 3, 31, 32, 33, 32*c.n - 1, 32 * c.n, 32*c.n + 1, 32 * c.n, 70}))
	}
	if s.roll(12) == 0 {
		s.spoil(&c)
	}
	return c
}

// part rolls a right range.
func (s *script) part(capacity int) (lba, n int) {
	switch s.roll(20) {
	case 0:
		return 0, capacity
	case 1:
		lba = s.roll(capacity)
		return lba, capacity - lba
	}
	lba = s.roll(capacity)
	return lba, 1 + s.roll(min(9, capacity-lba))
}

// spoil makes a number of a call wrong, or puts one that may be.
func (s *script) spoil(c *call) {
	number := pick(&s.dice, append([]int{0, 1, -1, s.capacities[0], s.capacities[1], s.capacities[0] + 1}, far...))
	switch s.roll(4) {
	case 0:
		c.lba = number
	case 1:
		c.n = number
	case 2:
		c.at = number
	case 3:
		c.lba, c.n, c.at = number, 1, number
	}
}

// bench is two disks that a script is played on.
type bench struct {
	name  string
	disks []Disk
}

// benches are of each kind, and of two kinds.
func benches(t *testing.T, c, d api.Config) []bench {
	t.Helper()
	var l []bench
	for _, x := range makers {
		for _, y := range makers {
			l = append(l, bench{x.name + " and " + y.name, []Disk{x.make(t, c), y.make(t, d)}})
		}
	}
	return l
}

// P24.3: disks that are told the same answer the same, call by call, and have the same
// Content then; the devices' flash is as that of devices that were told it by hand.
func TestDisksToldTheSame(t *testing.T) {
	var done, refused, same atomic.Int32
	t.Run("all", func(t *testing.T) {
		for seed := range 24 {
			t.Run(strconv.Itoa(seed), func(t *testing.T) {
				t.Parallel()
				l := configs()
				c, d := l[seed%4], l[seed/4%4]
				s := &script{dice{uint64(seed)}, [2]int{c.Capacity, d.Capacity}}
				all := benches(t, c, d)
				want := []plain{plain(noughts(c.Capacity)), plain(noughts(d.Capacity))}
				hands := []*dev.Device{formatted(t, c), formatted(t, d)}
				for range 150 {
					x := s.next()
					a := x.onPlain(want)
					for _, b := range all {
						b.holds(t, x, a, want)
					}
					x.byHand(hands)
					if a.same {
						same.Add(1)
					}
					if a.e == api.OK {
						done.Add(1)
					} else {
						refused.Add(1)
					}
				}
				for i, hand := range hands {
					for _, b := range all {
						if k, ok := Device(b.disks[i]); ok && !slices.Equal(k.Image(), hand.Image()) {
							t.Errorf("P24.2: %s: the flash of the disk %d is not as by hand", b.name, i)
						}
					}
				}
			})
		}
	})
	if done.Load() < 2500 || refused.Load() < 250 || same.Load() < 50 {
		t.Errorf("the tests' own scripts: %d done, %d refused, %d the same", done.Load(), refused.Load(), same.Load())
	}
}

// holds makes a call on two disks, and holds them against the plain forms.
func (b bench) holds(t *testing.T, c call, want answer, content []plain) {
	t.Helper()
	if a := c.on(b.disks); a != want {
		t.Fatalf("P24.3: %s: %v: %v; want %v", b.name, c, a, want)
	}
	for i, d := range b.disks {
		if s := d.Content(); s != string(content[i]) {
			t.Fatalf("P24.3: %s: behind %v: the disk %d is %q, want %q", b.name, c, i, s, content[i])
		}
	}
}

// T1, T2: a device on runs, a flat one and an array are told scripts, the devices with
// cuts: what a call that was cut leaves is before or after it, on both the same.
func TestScriptsWithCuts(t *testing.T) {
	for seed := range 16 {
		t.Run(strconv.Itoa(seed), func(t *testing.T) {
			t.Parallel()
			c := configs()[seed%4]
			s := &script{dice{uint64(1000 + seed)}, [2]int{c.Capacity, 20}}
			one, table := []Disk{formatted(t, c), array(t, 20)}, []Disk{formatted(t, bothKinds(c)[1]), array(t, 20)}
			now := []plain{plain(noughts(c.Capacity)), plain(noughts(20))}
			before, after := 0, 0
			for range 250 {
				x, k := s.next(), s.roll(200)
				if s.roll(3) > 0 {
					k = -1
				}
				was := []plain{slices.Clone(now[0]), slices.Clone(now[1])}
				want := x.onPlain(now)
				Must(one[0]).Cut(k)
				Must(table[0]).Cut(k)
				a, b := x.on(one), x.on(table)
				if a != b || Must(one[0]).Power() != Must(table[0]).Power() {
					t.Fatalf("T2: %v: %v, on the flat one %v", x, a, b)
				}
				if Must(one[0]).Power() {
					wantBoth(t, x, one, table, a, want, now)
					continue
				}
				if a != (answer{e: api.EOFF}) || k < 0 {
					t.Fatalf("P24.2: %v, cut: %v", x, a)
				}
				Must(one[0]).Mount(-1)
				Must(table[0]).Mount(-1)
				if one[0].Content() == string(was[0]) && string(was[0]) != string(now[0]) {
					now = was
					before++
				} else if string(was[0]) != string(now[0]) {
					after++
				}
				wantBoth(t, x, one, table, a, a, now)
			}
			if before < 5 {
				t.Errorf("the tests' own script: %d calls were cut and not done, %d were", before, after)
			}
		})
	}
}

// wantBoth holds an answer, and both benches' disks, against what should be.
func wantBoth(t *testing.T, c call, one, table []Disk, got, want answer, content []plain) {
	t.Helper()
	if got != want {
		t.Fatalf("T1: %v: %v, want %v", c, got, want)
	}
	for i, p := range content {
		if one[i].Content() != string(p) || table[i].Content() != string(p) {
			t.Fatalf("T1: behind %v: the disk %d is %q, on the flat one %q, want %q", c, i, one[i].Content(), table[i].Content(), p)
		}
	}
}

// P24.3: what was copied is the same, of any disks and ranges, till a byte of it is
// changed.
func TestCopiedIsTheSame(t *testing.T) {
	d := dice{5}
	for range 40 {
		x, y := pick(&d, makers), pick(&d, makers)
		a, b := written(t, x.make(t, example), d.roll(99)), written(t, y.make(t, example), 100+d.roll(99))
		for range 6 {
			lba := d.roll(48)
			n := 1 + d.roll(48-lba)
			if same, e := Same(a, b, lba, n); e != api.OK {
				t.Fatalf("P24.2: Same: %v, %d", same, e)
			}
			if e := Copy(a, b, lba, n, lba); e != api.OK {
				t.Fatalf("P24.2: Copy: %d", e)
			}
			wantSame(t, a, b, lba, n, true)
			sector := lba + d.roll(n)
			was, _ := b.Read(sector, 1)
			at := d.roll(32)
			b.Write(sector, 1, was[:at]+"\xee"+was[at+1:])
			wantSame(t, a, b, lba, n, false)
		}
	}
}
