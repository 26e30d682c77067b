package vol

import (
	"fmt"
	"math"
	"strings"
	"testing"

	"ferrule/api"
	"ferrule/dev"
	"ferrule/disk"
)

// P25.1: Open of disks of each number of sectors, of all kinds.
func TestOpenSizes(t *testing.T) {
	for n := 1; n <= 100; n++ {
		wantSize(t, array(t, n), n)
	}
	wantSize(t, array(t, api.MaxCapacity), api.MaxCapacity)
	for _, n := range []int{1, 7, 8, 9, 10, 20, 48} {
		c := api.Config{Blocks: 40, Pages: 8, Capacity: n, Spare: 2, MaxRuns: 48, Window: min(n, 8)}
		for _, c := range bothKinds(c) {
			wantSize(t, formatted(t, c), n)
		}
	}
	// Of a disk that is neither it is the whole sectors of the Content that count.
	for bytes := range 400 {
		wantSize(t, &mine{content: noughts(20)[:bytes], left: -1}, bytes/32)
	}
	for _, n := range []int{511, 512, 513, 1000, 1 << 16, 100000} {
		wantSize(t, blank(n), n)
	}
}

// wantSize opens a disk of so many sectors, without a volume.
func wantSize(t *testing.T, d disk.Disk, sectors int) {
	t.Helper()
	s, e := Open(d)
	if sectors < 9 {
		if s != nil || e != api.EARG {
			t.Errorf("P25.1: Open of %d sectors: %v, %d", sectors, s, e)
		}
		return
	}
	if s == nil || e != api.OK {
		t.Fatalf("P25.1: Open of %d sectors: %v, %d", sectors, s, e)
	}
	wantVolumes(t, s, "[]", sectors-8)
}

// off is a device with its power off.
func off(t *testing.T, c api.Config) *dev.Device {
	t.Helper()
	d := formatted(t, c)
	d.Cut(0)
	if d.Trim(0, 1) != api.EOFF || d.Power() {
		t.Fatalf("P18.4: a cut at 0, and the power is on")
	}
	return d
}

// P25.1: Open of a device that is off: how many sectors it has is asked first.
func TestOpenOff(t *testing.T) {
	for _, c := range bothKinds(example) {
		if s, e := Open(off(t, c)); s != nil || e != api.EOFF {
			t.Errorf("P25.1: Open of a device that is off: %v, %d", s, e)
		}
		c.Capacity, c.Window = 8, 8
		if s, e := Open(off(t, c)); s != nil || e != api.EARG {
			t.Errorf("P25.1: Open of a device of 8 sectors that is off: %v, %d", s, e)
		}
	}
}

// P25.1: the error of reading the entries, whatever it is; with it nothing is changed.
func TestOpenUnreadable(t *testing.T) {
	for _, e := range []api.Errno{api.EARG, api.EOFF, api.ECRC, api.EDEAD, 99, -1} {
		m := blank(20)
		m.left, m.e = 0, e
		if s, got := Open(m); s != nil || got != e {
			t.Errorf("P25.1: Open with the error %d: %v, %d", e, s, got)
		}
		if m.changes != nil {
			t.Errorf("P25.1: Open with an error changes the disk: %v", m.changes)
		}
	}
}

// P25.1, R3: Open changes nothing, whatever stands there.
func TestOpenLooksOnly(t *testing.T) {
	d := dice{1}
	for range 50 {
		m := &mine{content: rolledEntries(&d, 30) + d.text(22*32), left: -1}
		was := m.content
		s := open(t, m)
		s.Volumes()
		s.Free()
		if m.changes != nil || m.content != was {
			t.Fatalf("P25.1: Open changes the disk: %v", m.changes)
		}
	}
}

// wantAlone holds an entry that stands alone, at each of the eight places, against
// what the chapter says of it.
func wantAlone(t *testing.T, what, s string, sectors int) (is bool) {
	t.Helper()
	v, is := plainEntry(s, sectors)
	want, free := "[]", sectors-8
	if is {
		want, free = fmt.Sprint([]Entry{v}), sectors-8-v.Len
	}
	for i := range 8 {
		m := blank(sectors)
		m.content, _ = plainWrite(m.content, i, 1, s)
		got := open(t, m)
		if fmt.Sprint(got.Volumes()) != want || got.Free() != free {
			t.Fatalf("P25.1: %s, as the entry %d: %q: %.200v, %d; want %.200s, %d", what, i, s, got.Volumes(), got.Free(), want, free)
		}
	}
	return is
}

// 'On the disk': a volume's entry with each byte spoilt by itself, to each other
// value, is free.
func TestEachByteSpoilt(t *testing.T) {
	for _, good := range []string{laid("a", 8, 1), laid("\u00e9\ufffdx", 10, 5), laid("0123456789abcdef", 256, 44)} {
		if !wantAlone(t, "a volume", good, 300) {
			t.Fatalf("the tests' own entry is none: %q", good)
		}
		for at := range 32 {
			for x := range 256 {
				s := good[:at] + string([]byte{byte(x)}) + good[at+1:]
				if s != good && wantAlone(t, fmt.Sprintf("byte %d made %d", at, x), s, 300) {
					t.Fatalf("the tests' own plain form takes a spoilt entry: %q", s)
				}
			}
		}
	}
}

// 'On the disk': the same with the sum set right behind: what is asked of each byte is
// asked of it by itself.
func TestEachByteSpoiltAndSummed(t *testing.T) {
	taken := 0
	for _, good := range []string{laid("ab", 10, 5), laid("\u00e9-\U0001f600", 9, 2), laid("0123456789abcdef", 256, 44)} {
		for at := range 22 {
			for x := range 256 {
				s := summed(good[:at] + string([]byte{byte(x)}) + good[at+1:])
				if s != good && wantAlone(t, fmt.Sprintf("byte %d made %d, summed", at, x), s, 300) {
					taken++
				}
			}
		}
	}
	// Other names, other first sectors and lengths: these are volumes, too.
	if taken < 1000 {
		t.Errorf("the tests' own entries: %d volumes", taken)
	}
}

// 'On the disk': names of each length; a length that says less, or more, than there is.
func TestNamesOfEntries(t *testing.T) {
	long := "0123456789abcdefg"
	for n := range 17 {
		if got := wantAlone(t, "a name", laid(long[:n], 8, 1), 20); got != (n > 0) {
			t.Errorf("the tests' own plain form: a name of %d bytes: %v", n, got)
		}
		for says := range 256 {
			s := laid(long[:n], 8, 1)
			s = summed(s[:1] + string([]byte{byte(says)}) + s[2:])
			if got := wantAlone(t, "a name with another length", s, 20); got != (n > 0 && says == n) {
				t.Errorf("the tests' own plain form: a name of %d bytes that says %d: %v", n, says, got)
			}
		}
	}
	for _, name := range []string{
		" ", "a b", "a ", " a", "\x00", "a\x00b", "\x1f", "!", "~", "\x7f", "a\x7fb", "\x80", "\xff", "a\xc3", "\xc3\xa9", "\xa9", "\xed\xa0\x80",
		"\xc0\x80", "\xf4\x90\x80\x80", "\ufffd", "\u0080", "\u00a0", "\U0001f600\U0001f600\U0001f600\U0001f600", "\U0001f600\U0001f600\U0001f600\xf0\x9f\x98", "\n",
	} {
		wantAlone(t, "a name", laid(name, 8, 1), 20)
	}
}

// 'On the disk': first sectors and lengths at the disk's beginning and end, and past
// them; also on disks on which the two bytes' greatest numbers may be.
func TestPlacesOfEntries(t *testing.T) {
	taken := 0
	for _, sectors := range []int{9, 10, 20, 300, 511, 512, 65535, 65536, 65542, 65543, 70000, 131069, 131070} {
		edges := []int{0, 1, 2, 7, 8, 9, 10, 255, 256, 257, sectors - 9, sectors - 8, sectors - 7, sectors - 1, sectors, sectors + 1, 32767, 32768, 65535}
		for _, first := range edges {
			for _, n := range edges {
				if first > math.MaxUint16 || n > math.MaxUint16 {
					continue
				}
				if sectors > 1000 && (first+n < sectors-2 || first+n > sectors+2) {
					continue
				}
				if wantPlace(t, sectors, first, n) {
					taken++
				}
			}
		}
	}
	if taken < 60 {
		t.Errorf("the tests' own places: %d volumes", taken)
	}
}

// wantPlace is wantAlone, of the last entry alone.
func wantPlace(t *testing.T, sectors, first, n int) (is bool) {
	t.Helper()
	s := laid("place", first, n)
	_, is = plainEntry(s, sectors)
	want, free := "[]", sectors-8
	if is {
		want, free = fmt.Sprintf("[{place %d %d}]", first, n), sectors-8-n
	}
	d := blank(sectors)
	d.content = d.content[:7*32] + s + d.content[8*32:]
	got := open(t, d)
	if fmt.Sprint(got.Volumes()) != want || got.Free() != free {
		t.Errorf("P25.1: %d sectors from %d on, of %d: %v, %d; want %s, %d", n, first, sectors, got.Volumes(), got.Free(), want, free)
	}
	return is
}

// 'On the disk': entries with the name, or a sector, of a volume ahead of them are
// free; one of an entry that is free counts for nothing.
func TestEntriesThatMeet(t *testing.T) {
	wrong := laid("a", 8, 4)[:31] + "x"
	for i, x := range []struct {
		entries []string
		want    string
		free    int
	}{
		{[]string{laid("a", 8, 4), laid("a", 20, 4)}, "[{a 8 4}]", 24},
		{[]string{laid("a", 20, 4), laid("a", 8, 4)}, "[{a 20 4}]", 24},
		{[]string{laid("a", 8, 4), laid("A", 20, 4)}, "[{a 8 4} {A 20 4}]", 20},
		{[]string{laid("a", 8, 4), laid("b", 11, 4)}, "[{a 8 4}]", 24},
		{[]string{laid("a", 8, 4), laid("b", 12, 4)}, "[{a 8 4} {b 12 4}]", 20},
		{[]string{laid("a", 12, 4), laid("b", 8, 5)}, "[{a 12 4}]", 24},
		{[]string{laid("a", 12, 4), laid("b", 8, 4)}, "[{a 12 4} {b 8 4}]", 20},
		{[]string{laid("a", 12, 4), laid("b", 10, 9)}, "[{a 12 4}]", 24},
		{[]string{laid("a", 12, 4), laid("b", 13, 1)}, "[{a 12 4}]", 24},
		{[]string{laid("a", 12, 4), laid("b", 12, 4)}, "[{a 12 4}]", 24},
		{[]string{laid("a", 12, 4), laid("a", 12, 4)}, "[{a 12 4}]", 24},
		{[]string{laid("a", 12, 1), laid("b", 12, 1), laid("c", 13, 1), laid("d", 11, 1)}, "[{a 12 1} {c 13 1} {d 11 1}]", 25},
		// One that is free because of one ahead of it keeps none behind it away.
		{[]string{laid("a", 8, 4), laid("b", 11, 4), laid("b", 12, 4)}, "[{a 8 4} {b 12 4}]", 20},
		{[]string{laid("a", 8, 4), laid("b", 11, 4), laid("c", 12, 4)}, "[{a 8 4} {c 12 4}]", 20},
		{[]string{laid("a", 8, 4), laid("a", 20, 4), laid("b", 20, 4)}, "[{a 8 4} {b 20 4}]", 20},
		// Nor does one that is none by itself.
		{[]string{wrong, laid("a", 9, 4)}, "[{a 9 4}]", 24},
		{[]string{wrong, laid("b", 8, 4)}, "[{b 8 4}]", 24},
		{[]string{laid("a", 7, 4), laid("a", 33, 4), laid("a", 9, 0), laid("a", 9, 1)}, "[{a 9 1}]", 27},
		{[]string{laid("a b", 8, 28), laid("a", 8, 28)}, "[{a 8 28}]", 0},
		{[]string{"", "", "", "", laid("a", 8, 4), "", laid("a", 35, 1), laid("b", 35, 1)}, "[{a 8 4} {b 35 1}]", 23},
		// Names are held against each other byte by byte: these two look alike.
		{[]string{laid("\u00e9", 8, 1), laid("e\u0301", 9, 1), laid("\u00e9", 10, 1)}, "[{\u00e9 8 1} {e\u0301 9 1}]", 26},
	} {
		content := ""
		for _, s := range x.entries {
			content += padded(s, 1)
		}
		for _, m := range makers {
			d := m.make(t, api.Config{Blocks: 40, Pages: 8, Capacity: 36, Spare: 2, MaxRuns: 48, Window: 8})
			must(t, d.Write(0, 8, content))
			s := open(t, d)
			if fmt.Sprint(s.Volumes()) != x.want || s.Free() != x.free {
				t.Errorf("P25.1: %d, %s: %v, %d; want %s, %d", i, m.name, s.Volumes(), s.Free(), x.want, x.free)
			}
		}
	}
}

// rolledEntries are eight sectors: volumes whose places and names meet often, some
// spoilt, and any bytes.
func rolledEntries(d *dice, sectors int) string {
	var b strings.Builder
	for range 8 {
		s := laid(pick(d, []string{"a", "b", "c", "\u00e9", "name", "0123456789abcdef"}), 8+d.roll(sectors-8), 1+d.roll(6))
		switch d.roll(8) {
		case 0:
			s = d.text(32)
		case 1:
			s = noughts(1)
		case 2:
			at := d.roll(32)
			s = s[:at] + d.text(1) + s[at+1:]
		case 3:
			at := d.roll(22)
			s = summed(s[:at] + d.text(1) + s[at+1:])
		}
		b.WriteString(s)
	}
	return b.String()
}

// P25.1: any entries, held against the chapter's words.
func TestRolledEntries(t *testing.T) {
	d := dice{2}
	volumes, stale := 0, 0
	for range 20000 {
		sectors := 9 + d.roll(40)
		m := &mine{content: rolledEntries(&d, sectors) + noughts(sectors-8), left: -1}
		p := plainOpen(m.content)
		s := open(t, m)
		if fmt.Sprint(s.Volumes()) != fmt.Sprint(p.all()) || s.Free() != p.free() {
			t.Fatalf("P25.1: %q: %v, %d; want %v, %d", m.content[:256], s.Volumes(), s.Free(), p.all(), p.free())
		}
		volumes += len(p.all())
		stale += p.stale
	}
	if volumes < 20000 || stale < 20000 {
		t.Errorf("the tests' own entries: %d volumes, %d free for one ahead of them", volumes, stale)
	}
}

// R1: disks that tell less than they are asked for, or more, make no call panic.
func TestDisksThatTellTooLittle(t *testing.T) {
	for n := range 300 {
		s, e := Open(&odd{noughts(20), laid("a", 8, 4) + noughts(7) + laid("b", 12, 1), n})
		if e != api.OK {
			t.Fatalf("P25.1: Open: %d", e)
		}
		if n >= 256 && fmt.Sprint(s.Volumes()) != "[{a 8 4}]" {
			t.Errorf("P25.1: Open: %v", s.Volumes())
		}
		for _, call := range []func() api.Errno{
			func() api.Errno { return s.Create("c", 2) },
			func() api.Errno { return s.Clone("c", "d") },
			func() api.Errno { return s.Rename("c", "e") },
			func() api.Errno { _, e := s.Read("e", 0, 2); return e },
			func() api.Errno { return s.Write("e", 0, 2, "x") },
			func() api.Errno { return s.Delete("e") },
		} {
			must(t, call())
		}
	}
}

// odd tells so many bytes, whatever it is asked for.
type odd struct {
	content, data string
	bytes         int
}

func (o *odd) Read(lba, n int) (string, api.Errno)     { return padded(o.data, 10)[:o.bytes], api.OK }
func (o *odd) Write(lba, n int, data string) api.Errno { return api.OK }
func (o *odd) Trim(lba, n int) api.Errno               { return api.OK }
func (o *odd) Content() string                         { return o.content }
