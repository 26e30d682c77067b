package vol

import (
	"fmt"
	"slices"
	"strings"
	"testing"

	"ferrule/api"
	"ferrule/dev"
	"ferrule/disk"
)

// full is a disk that is written full of bytes that are no entry, and no nought.
func full(t *testing.T, m maker, c api.Config) disk.Disk {
	t.Helper()
	d := m.make(t, c)
	must(t, disk.Fill(d, 0, c.Capacity, "full"))
	return d
}

// P25.2: n of 1 and 512 may be, others not, whatever the disk has.
func TestNumbersOfCreate(t *testing.T) {
	for _, sectors := range []int{9, 20, 519, 520, 521, 2000} {
		for _, n := range append([]int{-2, -1, 0, 1, 2, 11, 12, 13, 256, 511, 512, 513, 514, 520, 1000, 1991, 1992}, far...) {
			m := blank(sectors)
			s := open(t, m)
			want := api.OK
			switch {
			case n < 1 || n > 512:
				want = api.EARG
			case n > sectors-8:
				want = api.EFULL
			}
			if e := s.Create("a", n); e != want {
				t.Errorf("P25.2: Create of %d sectors on a disk of %d: %d, want %d", n, sectors, e, want)
			}
			if want == api.OK {
				wantAlso(t, s, m, fmt.Sprintf("[{a 8 %d}]", n), sectors-8-n)
			} else {
				wantAlso(t, s, m, "[]", sectors-8)
			}
		}
	}
}

// P25.2: the errors by themselves, and which comes first where several fit.
func TestErrorsOfCreate(t *testing.T) {
	for _, m := range makers {
		d := m.make(t, example)
		s := open(t, d)
		must(t, s.Create("a", 10))
		must(t, s.Create("b", 20))
		before := d.Content()
		for i, x := range []struct {
			name string
			n    int
			want api.Errno
		}{
			{"", 1, api.EARG}, {"x y", 1, api.EARG}, {"\xff", 1, api.EARG}, {"0123456789abcdefg", 1, api.EARG}, {"a\x00", 1, api.EARG},
			{"c", 0, api.EARG}, {"c", 513, api.EARG}, {"c", -1, api.EARG},
			{"", 0, api.EARG}, {"", 11, api.EARG}, {"a", 0, api.EARG}, {"a", 513, api.EARG}, {"c", 1 << 62, api.EARG},
			{"a", 1, api.EORDER}, {"b", 10, api.EORDER}, {"a", 11, api.EORDER}, {"a", 512, api.EORDER},
			{"c", 11, api.EFULL}, {"c", 512, api.EFULL}, {"A", 11, api.EFULL},
		} {
			if e := s.Create(x.name, x.n); e != x.want {
				t.Errorf("P25.2: %s, %d: Create(%q, %d): %d, want %d", m.name, i, x.name, x.n, e, x.want)
			}
			if d.Content() != before {
				t.Fatalf("R3: %s, %d: a Create that is refused changes the disk", m.name, i)
			}
			wantAlso(t, s, d, "[{a 8 10} {b 18 20}]", 10)
		}
		must(t, s.Create("c", 10))
		wantAlso(t, s, d, "[{a 8 10} {b 18 20} {c 38 10}]", 0)
		if e := s.Create("d", 1); e != api.EFULL {
			t.Errorf("P25.2: %s: Create on a full disk: %d", m.name, e)
		}
	}
}

// P25.2: what the disk has behind a Create, byte by byte, and what it was told: the
// sectors are trimmed, then the entry is written.
func TestBytesOfCreate(t *testing.T) {
	for _, m := range makers {
		d := full(t, m, example)
		s := open(t, d)
		p := plainOpen(d.Content())
		for i, x := range []struct {
			name string
			n    int
		}{{"a", 4}, {"0123456789abcdef", 1}, {"\u00e9\u20ac\U0001f600", 7}, {"!~", 13}, {"\ufffd", 2}} {
			must(t, s.Create(x.name, x.n))
			must(t, p.create(x.name, x.n))
			if d.Content() != p.content {
				t.Fatalf("P25.2: %s: behind the volume %d the disk is %q, want %q", m.name, i, d.Content(), p.content)
			}
			if got, e := s.Read(x.name, 0, x.n); e != api.OK || got != noughts(x.n) {
				t.Errorf("P25.2: %s: a new volume reads %.80q, %d", m.name, got, e)
			}
		}
	}
	m := &mine{content: strings.Repeat("x", 20*32), left: -1}
	s := open(t, m)
	m.forget()
	must(t, s.Create("a", 3))
	must(t, s.Create("b", 4))
	want := []told{{"trim", 8, 3, ""}, {"write", 0, 1, laid("a", 8, 3)}, {"trim", 11, 4, ""}, {"write", 1, 1, laid("b", 11, 4)}}
	if !slices.Equal(m.changes, want) {
		t.Errorf("P25.2: Create tells the disk %v, want %v", m.changes, want)
	}
}

// P25.2: an entry's numbers of two bytes, on disks that are great enough; sectors that
// no entry can tell are none.
func TestFarSectorsOfCreate(t *testing.T) {
	for _, x := range []struct{ first, n int }{{255, 1}, {256, 256}, {257, 512}, {65023, 512}, {65535, 1}, {65535, 512}} {
		m := blank(70000)
		m.content, _ = plainWrite(m.content, 3, 1, laid("ahead", 8, x.first-8))
		s := open(t, m)
		must(t, s.Create("far", x.n))
		wantAlso(t, s, m, fmt.Sprintf("[{far %d %d} {ahead 8 %d}]", x.first, x.n, x.first-8), 70000-x.first-x.n)
		if got := m.content[:32]; got != laid("far", x.first, x.n) {
			t.Errorf("P25.2: the entry of %d sectors from %d on: %q", x.n, x.first, got)
		}
	}
	m := blank(70000)
	m.content, _ = plainWrite(m.content, 3, 1, laid("ahead", 8, 65535))
	s := open(t, m)
	if e := s.Create("far", 1); e == api.OK {
		wantVolumes(t, open(t, m), fmt.Sprint(s.Volumes()), s.Free())
	}
}

// P25.2: the least first sector: holes too small by one, just right, greater, at the
// disk's end.
func TestHoles(t *testing.T) {
	// Holes of 3, 5 and 4 sectors, and 2 at the end.
	const entries = "[{a 11 2} {b 18 1} {c 23 23}]"
	volumes := laid("a", 11, 2) + laid("b", 18, 1) + laid("c", 23, 23)
	for n, first := range map[int]int{1: 8, 2: 8, 3: 8, 4: 13, 5: 13, 6: -1, 7: -1, 40: -1} {
		m := &mine{content: volumes + noughts(45), left: -1}
		s := open(t, m)
		wantVolumes(t, s, entries, 14)
		e := s.Create("n", n)
		if first < 0 {
			if e != api.EFULL {
				t.Errorf("P25.2: Create of %d where no hole is: %d", n, e)
			}
			wantAlso(t, s, m, entries, 14)
			continue
		}
		must(t, e)
		wantAlso(t, s, m, fmt.Sprintf("%s {n %d %d}]", strings.TrimSuffix(entries, "]"), first, n), 14-n)
	}
	// The hole at the end alone is great enough, or is not.
	for n, want := range map[int]api.Errno{1: api.OK, 2: api.OK, 3: api.EFULL} {
		m := &mine{content: laid("all", 8, 38) + noughts(47), left: -1}
		if e := open(t, m).Create("n", n); e != want {
			t.Errorf("P25.2: Create of %d at the disk's end: %d, want %d", n, e, want)
		}
	}
}

// P25.2: each way in which four volumes, or fewer, stand on a small disk, in entries of
// any order, with each n.
func TestEachHole(t *testing.T) {
	d := dice{3}
	for shape := range 1 << 12 {
		content := ""
		var entries []string
		for lba := 0; lba < 12; {
			n := 0
			for ; lba+n < 12 && shape>>(lba+n)&1 == 1; n++ {
			}
			if n > 0 {
				entries = append(entries, laid(fmt.Sprint("v", lba), 8+lba, n))
			}
			lba += n + 1
		}
		for len(entries) < 8 {
			entries = append(entries, noughts(1))
		}
		for i := range entries {
			k := i + d.roll(len(entries)-i)
			entries[i], entries[k] = entries[k], entries[i]
		}
		content = strings.Join(entries, "") + strings.Repeat("x", 12*32)
		for n := 1; n <= 13; n++ {
			p, m := plainOpen(content), &mine{content: content, left: -1}
			s := open(t, m)
			e, want := s.Create("new", n), p.create("new", n)
			if e != want || m.content != p.content || fmt.Sprint(s.Volumes()) != fmt.Sprint(p.all()) || s.Free() != p.free() {
				t.Fatalf("P25.2: Create of %d with %v: %d, %v; want %d, %v", n, plainOpen(content).all(), e, s.Volumes(), want, p.all())
			}
		}
	}
}

// P25.2: the free entry with the least number is written, whatever it holds; with none
// free it is EFULL.
func TestFreeEntries(t *testing.T) {
	junk := []string{noughts(1), strings.Repeat("x", 32), laid("junk", 7, 1), laid("junk", 8, 0), laid("ju nk", 8, 1), laid("junk", 8, 1)[:31] + "x"}
	for taken := range 1 << 8 {
		content, least := "", -1
		for i := range 8 {
			if taken>>i&1 == 1 {
				content += laid(fmt.Sprint("v", i), 20+i, 1)
				continue
			}
			if least < 0 {
				least = i
			}
			content += junk[(taken+i)%len(junk)]
		}
		m := &mine{content: content + noughts(30), left: -1}
		s := open(t, m)
		p := plainOpen(m.content)
		e, want := s.Create("new", 2), p.create("new", 2)
		if e != want || (e == api.EFULL) != (least < 0) || m.content != p.content {
			t.Fatalf("P25.2: Create with the entries %b taken: %d, want %d", taken, e, want)
		}
		if least >= 0 && m.content[32*least:32*least+32] != laid("new", 8, 2) {
			t.Fatalf("P25.2: Create with the entries %b taken writes another one than %d", taken, least)
		}
		wantAlso(t, s, m, fmt.Sprint(p.all()), p.free())
	}
}

// P25.2: eight volumes are all; one that is taken away makes room for one.
func TestEightVolumes(t *testing.T) {
	for _, m := range makers {
		d := m.make(t, example)
		s := open(t, d)
		for i := range 8 {
			must(t, s.Create(fmt.Sprint("v", i), 1+i%3))
		}
		if e := s.Create("more", 1); e != api.EFULL {
			t.Errorf("P25.2: %s: a ninth volume: %d", m.name, e)
		}
		if e := s.Clone("v0", "more"); e != api.EFULL {
			t.Errorf("P25.3: %s: a ninth volume, a clone: %d", m.name, e)
		}
		must(t, s.Delete("v5"))
		must(t, s.Create("more", 2))
		wantAlso(t, s, d, "[{v0 8 1} {v1 9 2} {v2 11 3} {v3 14 1} {v4 15 2} {more 17 2} {v6 20 1} {v7 21 2}]", 26)
	}
}

// P25.2: the new volume's sectors are noughts, whatever was there, and no other sector
// changes.
func TestTrimmedSectors(t *testing.T) {
	for _, m := range makers {
		d := m.make(t, example)
		s := open(t, d)
		must(t, s.Create("a", 9))
		must(t, s.Create("b", 5))
		must(t, s.Write("a", 0, 9, strings.Repeat("a", 9*32)))
		must(t, s.Write("b", 0, 5, strings.Repeat("b", 5*32)))
		must(t, s.Delete("a"))
		must(t, s.Create("c", 4))
		wantAlso(t, s, d, "[{c 8 4} {b 17 5}]", 31)
		want := laid("c", 8, 4) + laid("b", 17, 5) + noughts(6+4) + strings.Repeat("a", 5*32) + strings.Repeat("b", 5*32) + noughts(26)
		if got := d.Content(); got != want {
			t.Errorf("P25.2: %s: %q, want %q", m.name, got, want)
		}
	}
}

// P25.2, R3: calls that are refused do nothing on a device: neither a step nor a read.
func TestRefusedCallsOnDevices(t *testing.T) {
	for _, c := range bothKinds(example) {
		d := formatted(t, c)
		s := open(t, d)
		must(t, s.Create("a", 30))
		must(t, s.Create("b", 3))
		stat, work, img := d.Stat(), d.Work(), d.Image()
		for i, x := range []struct {
			call func() api.Errno
			want api.Errno
		}{
			{func() api.Errno { return s.Create("", 1) }, api.EARG},
			{func() api.Errno { return s.Create("c", 0) }, api.EARG},
			{func() api.Errno { return s.Create("a", 1) }, api.EORDER},
			{func() api.Errno { return s.Create("c", 8) }, api.EFULL},
			{func() api.Errno { return s.Delete("c") }, api.ENONE},
			{func() api.Errno { return s.Rename("c", "d") }, api.ENONE},
			{func() api.Errno { return s.Rename("a", "") }, api.EARG},
			{func() api.Errno { return s.Rename("a", "b") }, api.EORDER},
			{func() api.Errno { return s.Clone("c", "d") }, api.ENONE},
			{func() api.Errno { return s.Clone("a", "") }, api.EARG},
			{func() api.Errno { return s.Clone("a", "b") }, api.EORDER},
			{func() api.Errno { return s.Clone("a", "c") }, api.EFULL},
			{func() api.Errno { _, e := s.Read("c", 0, 1); return e }, api.ENONE},
			{func() api.Errno { _, e := s.Read("b", 0, 4); return e }, api.EARG},
			{func() api.Errno { return s.Write("c", 0, 1, "x") }, api.ENONE},
			{func() api.Errno { return s.Write("b", 3, 1, "x") }, api.EARG},
		} {
			if e := x.call(); e != x.want {
				t.Errorf("P25: the call %d: %d, want %d", i, e, x.want)
			}
			if d.Stat() != stat || d.Work() != work || !slices.Equal(d.Image(), img) {
				t.Fatalf("R3: the call %d is refused, and changes the device", i)
			}
		}
		wantAlso(t, s, d, "[{a 8 30} {b 38 3}]", 7)
	}
}

// R5: two Stores on disks that are alike do alike; on devices their flash, too.
func TestStoresToldTheSame(t *testing.T) {
	for _, c := range bothKinds(example) {
		var devices []*dev.Device
		for range 2 {
			d := formatted(t, c)
			s := open(t, d)
			must(t, s.Create("a", 5))
			must(t, s.Write("a", 1, 3, "bytes"))
			must(t, s.Clone("a", "b"))
			must(t, s.Rename("a", "c"))
			must(t, s.Delete("b"))
			devices = append(devices, d)
		}
		if !slices.Equal(devices[0].Image(), devices[1].Image()) || devices[0].Stat() != devices[1].Stat() {
			t.Errorf("R5: two devices whose Stores were told the same are not the same")
		}
	}
}
