package vol

import (
	"fmt"
	"slices"
	"strings"
	"testing"

	"ferrule/api"
	"ferrule/dev"
	"ferrule/disk"
)

// change is a call that tells the disk something.
type change struct {
	name string
	call func(s *Store) api.Errno
}

// changes are calls that are well on a disk that `stored` made.
var changes = []change{
	{"Create", func(s *Store) api.Errno { return s.Create("new", 4) }},
	{"Create at the end", func(s *Store) api.Errno { return s.Create("new", 7) }},
	{"Delete", func(s *Store) api.Errno { return s.Delete("b") }},
	{"Rename", func(s *Store) api.Errno { return s.Rename("a", "new") }},
	{"Clone", func(s *Store) api.Errno { return s.Clone("\u00e9", "new") }},
	{"Clone at the end", func(s *Store) api.Errno { return s.Clone("a", "new") }},
	{"Write", func(s *Store) api.Errno { return s.Write("a", 1, 4, strings.Repeat("new", 40)) }},
	{"Write of one sector", func(s *Store) api.Errno { return s.Write("\u00e9", 2, 1, "new") }},
	{"Write of all", func(s *Store) api.Errno { return s.Write("b", 0, 20, "new") }},
}

// view is all that a Store tells: its volumes, with what reading them answers.
func view(s *Store) string {
	var b strings.Builder
	fmt.Fprintln(&b, s.Free())
	for _, v := range s.Volumes() {
		data, e := s.Read(v.Name, 0, v.Len)
		fmt.Fprintf(&b, "%v %d %q\n", v, e, data)
	}
	return b.String()
}

// wantAsAhead holds that a Store knows `new` not, and the volumes that `stored` made.
func wantAsAhead(t *testing.T, what string, s *Store) {
	t.Helper()
	if got := fmt.Sprint(s.Volumes()); got != "[{a 8 6} {b 18 20} {\u00e9 38 3}]" || s.Free() != 11 {
		t.Errorf("P25.5: %s: behind an error the Store tells %s, %d", what, got, s.Free())
	}
	if e := s.Delete("new"); e != api.ENONE {
		t.Errorf("P25.5: %s: behind an error there is a volume `new`: %d", what, e)
	}
}

// P25.5: an error of the disk at each of a call's commands, of any number: it is
// answered, and the Store tells what it told ahead of the call. Once the disk is well
// again the call does what it would have done.
func TestErrorsOnTheWay(t *testing.T) {
	for _, c := range changes {
		whole, s := stored(t, makers[3])
		m := whole.(*mine)
		m.forget()
		must(t, c.call(s))
		commands := len(m.reads) + len(m.changes)
		if commands < 1 {
			t.Fatalf("P25: %s tells the disk nothing", c.name)
		}
		want := view(s)
		for left := range commands {
			for _, e := range []api.Errno{api.EOFF, api.EDEAD, api.EBAD, api.EFULL, api.ENONE, 77, -5} {
				for _, once := range []bool{false, true} {
					d, s := stored(t, makers[3])
					m := d.(*mine)
					m.left, m.once, m.e = left, once, e
					what := fmt.Sprintf("%s, the error %d behind %d commands, once: %v", c.name, e, left, once)
					if got := c.call(s); got != e {
						t.Errorf("P25.5: %s: %d", what, got)
					}
					m.left = -1
					wantAsAhead(t, what, s)
					wantVolumes(t, open(t, d), "[{a 8 6} {b 18 20} {\u00e9 38 3}]", 11)
					must(t, c.call(s))
					if view(s) != want || view(open(t, d)) != want {
						t.Errorf("P25.5: %s, told again: %s, want %s", what, view(s), want)
					}
				}
			}
		}
	}
}

// P25.5: how many commands of the disk there are on each call's way, and that the
// sectors come ahead of the entry.
func TestCommandsOnTheWay(t *testing.T) {
	for _, x := range []struct {
		change int
		want   string
	}{
		{0, "trim 14 4, write 1 1, "}, {1, "trim 41 7, write 1 1, "}, {2, "trim 2 1, "}, {3, "write 0 1, "},
		{4, "write 14 3, write 1 1, "}, {5, "write 41 6, write 1 1, "}, {6, "write 9 4, "}, {7, "write 40 1, "}, {8, "write 18 20, "},
	} {
		d, s := stored(t, makers[3])
		m := d.(*mine)
		m.forget()
		must(t, changes[x.change].call(s))
		got := ""
		for _, c := range m.changes {
			got += fmt.Sprintf("%s %d %d, ", c.what, c.lba, c.n)
		}
		if got != x.want {
			t.Errorf("P25: %s tells the disk %s want %s", changes[x.change].name, got, x.want)
		}
	}
}

// P25.5, R2: an error of reading a volume is answered alone.
func TestErrorsOfReading(t *testing.T) {
	d, s := stored(t, makers[3])
	m := d.(*mine)
	for _, e := range []api.Errno{api.EOFF, api.ECRC, api.ENONE, 77} {
		m.left, m.e = 0, e
		if got, why := s.Read("a", 0, 2); got != "" || why != e {
			t.Errorf("P25.4: Read with the error %d: %.80q, %d", e, got, why)
		}
		m.left = -1
		wantAsAhead(t, "Read", s)
		wantBytes(t, s, "a", strings.Repeat("a", 6*32))
	}
	// A volume that can't be read is not cloned, and nothing is written for it.
	m.forget()
	m.left, m.e = 0, api.ECRC
	if e := s.Clone("a", "new"); e != api.ECRC || m.changes != nil {
		t.Errorf("P25.5: Clone of what can't be read: %d, %v", e, m.changes)
	}
}

// P25.5: refusals of the Store's own come ahead of what the disk would say.
func TestRefusedAheadOfTheDisk(t *testing.T) {
	d, s := stored(t, makers[3])
	m := d.(*mine)
	m.forget()
	m.left, m.e = 0, 77
	for i, x := range []struct{ got, want api.Errno }{
		{s.Create("", 1), api.EARG}, {s.Create("a", 1), api.EORDER}, {s.Create("new", 8), api.EFULL},
		{s.Delete("new"), api.ENONE},
		{s.Rename("new", "x"), api.ENONE}, {s.Rename("a", ""), api.EARG}, {s.Rename("a", "b"), api.EORDER},
		{s.Clone("new", "x"), api.ENONE}, {s.Clone("a", ""), api.EARG}, {s.Clone("a", "b"), api.EORDER}, {s.Clone("b", "x"), api.EFULL},
		{s.Write("new", 0, 1, "x"), api.ENONE}, {s.Write("a", 0, 7, "x"), api.EARG},
	} {
		if x.got != x.want {
			t.Errorf("P25: on a disk that refuses all, %d: %d, want %d", i, x.got, x.want)
		}
	}
	for _, r := range append(wrongRanges(), [2]int{6, 1}, [2]int{5, 2}) {
		if r == [2]int{0, 6} || r == [2]int{1, 5} || r == [2]int{2, 4} || r == [2]int{4, 2} || r == [2]int{5, 1} {
			continue // right for `a`
		}
		if got, e := s.Read("a", r[0], r[1]); got != "" || e != api.EARG {
			t.Errorf("P25.4: on a disk that refuses all, Read(%d, %d): %.80q, %d", r[0], r[1], got, e)
		}
		if e := s.Write("a", r[0], r[1], "x"); e != api.EARG {
			t.Errorf("P25.4: on a disk that refuses all, Write(%d, %d): %d", r[0], r[1], e)
		}
	}
	if m.changes != nil {
		t.Errorf("R3: calls that are refused tell the disk %v", m.changes)
	}
}

// P25.5: a device that is off answers EOFF to each call; the Store tells what it told,
// also of a disk that tells no Content then.
func TestDeviceThatIsOff(t *testing.T) {
	for _, m := range makers[:2] {
		for _, wrap := range []func(d disk.Disk) disk.Disk{
			func(d disk.Disk) disk.Disk { return d },
			func(d disk.Disk) disk.Disk { return struct{ disk.Disk }{d} },
		} {
			d, _ := stored(t, m)
			device := disk.Must(d)
			s := open(t, wrap(device))
			device.Cut(0)
			device.Trim(0, 1)
			for _, c := range changes {
				if e := c.call(s); e != api.EOFF {
					t.Errorf("P25.5: %s: %s on a device that is off: %d", m.name, c.name, e)
				}
				wantAsAhead(t, c.name, s)
			}
			if got, e := s.Read("a", 0, 1); got != "" || e != api.EOFF {
				t.Errorf("P25.5: %s: Read on a device that is off: %.80q, %d", m.name, got, e)
			}
			if e := s.Create("a", 1); e != api.EORDER {
				t.Errorf("P25.2: %s: Create on a device that is off: %d", m.name, e)
			}
			if e := s.Create("x", 8); e != api.EFULL {
				t.Errorf("P25.2: %s: Create on a device that is off: %d", m.name, e)
			}
			must(t, device.Mount(-1))
			again := open(t, wrap(device))
			wantAsAhead(t, "a mount", again)
			wantBytes(t, again, "a", strings.Repeat("a", 6*32))
		}
	}
}

// P25.5, P18.6: more blocks fail than may: what the device answers is answered.
func TestDeadDevice(t *testing.T) {
	c := fitted(40, 4, 0, 4)
	for _, c := range bothKinds(c) {
		made := func() (*dev.Device, *Store) {
			d := formatted(t, c)
			s := open(t, d)
			must(t, s.Create("a", 5))
			must(t, s.Write("a", 0, 5, "bytes"))
			return d, s
		}
		d, s := made()
		twin, _ := made()
		for _, x := range []*dev.Device{d, twin} {
			x.Fail(0)
			x.Write(c.Capacity-1, 1, "x")
		}
		want := twin.Write(1, 1, "")
		if want == api.OK {
			t.Fatalf("the tests' own device is not dead")
		}
		was, img := fmt.Sprint(s.Volumes()), d.Image()
		for i, e := range []api.Errno{s.Create("b", 1), s.Delete("a"), s.Rename("a", "b"), s.Clone("a", "b"), s.Write("a", 0, 1, "x")} {
			if e != want || fmt.Sprint(s.Volumes()) != was {
				t.Errorf("P25.5: the call %d on a device that is dead: %d, %v; want %d", i, e, s.Volumes(), want)
			}
		}
		if !slices.Equal(d.Image(), img) {
			t.Errorf("R3: a refused call changes the flash")
		}
		wantBytes(t, s, "a", padded("bytes", 5))
	}
}

// T1: operations that fail within Spare are none of the Store's business.
func TestFailingOperations(t *testing.T) {
	for _, m := range makers[:2] {
		for _, c := range changes {
			clean, s := stored(t, m)
			must(t, c.call(s))
			for operations := range 8 {
				d, s := stored(t, m)
				disk.Must(d).Fail(operations)
				if e := c.call(s); e != api.OK {
					t.Errorf("T1: %s: %s while an operation fails: %d", m.name, c.name, e)
				}
				if d.Content() != clean.Content() {
					t.Errorf("T1: %s: %s while an operation fails has another end", m.name, c.name)
				}
			}
		}
	}
}
