package vol

import (
	"slices"
	"strings"
	"testing"

	"ferrule/api"
	"ferrule/disk"
)

// between is a disk on which the volume `v` of 5 sectors, from 12 on, stands between
// two others; every byte says where it stands.
func between(t *testing.T, m maker) (disk.Disk, *Store) {
	t.Helper()
	d := m.make(t, example)
	s := open(t, d)
	must(t, s.Create("ahead", 4))
	must(t, s.Create("v", 5))
	must(t, s.Create("behind", 9))
	b := make([]byte, 40*32)
	for i := range b {
		b[i] = byte(i%251 + 1)
	}
	must(t, d.Write(8, 40, string(b)))
	return d, s
}

// wrongRanges are ranges that are not right for a volume of 5 sectors, though most of
// them are right for the disk.
func wrongRanges() [][2]int {
	l := [][2]int{{0, 0}, {0, -1}, {0, 6}, {1, 5}, {2, 4}, {4, 2}, {5, 1}, {5, 0}, {6, 1}, {-1, 1}, {-1, 2}, {-4, 4}, {-12, 12}, {-12, 1}, {5, -1}, {6, -1}, {12, 1}, {0, 48}, {0, 9}}
	for _, x := range far {
		l = append(l, [2]int{x, 1}, [2]int{0, x}, [2]int{x, x}, [2]int{1, x}, [2]int{x, -x}, [2]int{x, 1 - x}, [2]int{-x, x}, [2]int{4, x}, [2]int{x, 5})
	}
	return l
}

// P25.4: each range of a volume, right and wrong ones, read.
func TestRead(t *testing.T) {
	for _, m := range makers {
		d, s := between(t, m)
		all := d.Content()
		for at := -1; at < 8; at++ {
			for n := -1; n < 8; n++ {
				got, e := s.Read("v", at, n)
				want, why := plainRead(all[12*32:17*32], at, n)
				if got != want || e != why {
					t.Errorf("P25.4: %s: Read(%d, %d): %.80q, %d; want %.80q, %d", m.name, at, n, got, e, want, why)
				}
			}
		}
		for _, r := range wrongRanges() {
			if got, e := s.Read("v", r[0], r[1]); got != "" || e != api.EARG {
				t.Errorf("P25.4: %s: Read(%d, %d): %.80q, %d", m.name, r[0], r[1], got, e)
			}
			if got, e := s.Read("none", r[0], r[1]); got != "" || e != api.ENONE {
				t.Errorf("P25.4: %s: Read of none (%d, %d): %.80q, %d", m.name, r[0], r[1], got, e)
			}
		}
		for _, name := range []string{"", "V", "vv", "v ", "\xff", "none"} {
			if got, e := s.Read(name, 0, 1); got != "" || e != api.ENONE {
				t.Errorf("P25.4: %s: Read of %q: %.80q, %d", m.name, name, got, e)
			}
		}
		if d.Content() != all {
			t.Errorf("P25.4: %s: a Read changes the disk", m.name)
		}
	}
}

// P25.4: each range of a volume, right and wrong ones, written, with data shorter than
// it, as long, longer, and none; no other sector is changed, nor an entry.
func TestWrite(t *testing.T) {
	for _, m := range makers {
		d, s := between(t, m)
		for at := -1; at < 7; at++ {
			for n := -1; n < 7; n++ {
				for _, bytes := range []int{0, 1, 31, 32, 33, 32*n - 1, 32 * n, 32*n + 1, 400, 20000} {
					before := d.Content()
					data := strings.Repeat("Write", 4001)[:max(bytes, 0)]
					part, want := plainWrite(before[12*32:17*32], at, n, data)
					if e := s.Write("v", at, n, data); e != want {
						t.Errorf("P25.4: %s: Write(%d, %d) of %d bytes: %d, want %d", m.name, at, n, bytes, e, want)
					}
					if got := d.Content(); got != before[:12*32]+part+before[17*32:] {
						t.Fatalf("P25.4: %s: behind Write(%d, %d) of %d bytes the disk is %q", m.name, at, n, bytes, got)
					}
				}
			}
		}
		before := d.Content()
		for _, r := range wrongRanges() {
			if e := s.Write("v", r[0], r[1], "x"); e != api.EARG {
				t.Errorf("P25.4: %s: Write(%d, %d): %d", m.name, r[0], r[1], e)
			}
			if e := s.Write("none", r[0], r[1], "x"); e != api.ENONE {
				t.Errorf("P25.4: %s: Write to none (%d, %d): %d", m.name, r[0], r[1], e)
			}
		}
		for _, name := range []string{"", "V", "vv", "v ", "\xff", "none"} {
			if e := s.Write(name, 0, 1, "x"); e != api.ENONE {
				t.Errorf("P25.4: %s: Write to %q: %d", m.name, name, e)
			}
		}
		if d.Content() != before {
			t.Errorf("R3: %s: a Write that is refused changes the disk", m.name)
		}
		wantAlso(t, s, d, "[{ahead 8 4} {v 12 5} {behind 17 9}]", 22)
	}
}

// P25.4: any bytes are read as they were written: noughts, bytes 255, entries' bytes.
func TestAnyBytes(t *testing.T) {
	d := dice{4}
	for _, m := range makers {
		on, s := between(t, m)
		for range 50 {
			data := d.text(160)
			if d.roll(4) == 0 {
				data = laid("v", 8, 1) + laid("ahead", 12, 5) + noughts(3)
			}
			must(t, s.Write("v", 0, 5, data))
			wantBytes(t, s, "v", data)
			wantAlso(t, s, on, "[{ahead 8 4} {v 12 5} {behind 17 9}]", 22)
		}
	}
}

// P25.4: the disk is told one command.
func TestOneCommand(t *testing.T) {
	m := &mine{content: laid("v", 10, 5) + noughts(20), left: -1}
	s := open(t, m)
	m.forget()
	s.Read("v", 1, 3)
	if !slices.Equal(m.reads, []told{{"read", 11, 3, ""}}) || m.changes != nil {
		t.Errorf("P25.4: Read tells the disk %v, %v", m.reads, m.changes)
	}
	must(t, s.Write("v", 2, 2, "bytes"))
	must(t, s.Write("v", 0, 5, ""))
	if len(m.changes) != 2 {
		t.Fatalf("P25.4: Write tells the disk %v", m.changes)
	}
	for i, want := range []told{{"write", 12, 2, padded("bytes", 2)}, {"write", 10, 5, noughts(5)}} {
		c := m.changes[i]
		c.data = padded(c.data, c.n)
		if c != want {
			t.Errorf("P25.4: Write tells the disk %v, want %v", c, want)
		}
	}
}
