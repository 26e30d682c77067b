package vol

import (
	"fmt"
	"slices"
	"strings"
	"testing"

	"ferrule/api"
	"ferrule/disk"
)

// stored is a disk with three volumes, `a`, `b` and `\u00e9`, each full of bytes of its
// own; the entry 1 is free, and there is room for 4 sectors, and for 7.
func stored(t *testing.T, m maker) (disk.Disk, *Store) {
	t.Helper()
	d := m.make(t, example)
	s := open(t, d)
	must(t, s.Create("a", 6))
	must(t, s.Create("gone", 4))
	must(t, s.Create("b", 20))
	must(t, s.Create("\u00e9", 3))
	must(t, s.Write("a", 0, 6, strings.Repeat("a", 6*32)))
	must(t, s.Write("gone", 0, 4, strings.Repeat("g", 4*32)))
	must(t, s.Write("b", 0, 20, strings.Repeat("b", 20*32)))
	must(t, s.Write("\u00e9", 0, 3, strings.Repeat("e", 3*32)))
	must(t, s.Delete("gone"))
	wantAlso(t, s, d, "[{a 8 6} {b 18 20} {\u00e9 38 3}]", 11)
	return d, s
}

// P25.2: Delete: of each volume, of none, of one twice; its entry is trimmed, nothing
// else.
func TestDelete(t *testing.T) {
	for _, m := range makers {
		for i, x := range []struct {
			name, left  string
			entry, free int
		}{{"a", "[{b 18 20} {\u00e9 38 3}]", 0, 17}, {"b", "[{a 8 6} {\u00e9 38 3}]", 2, 31}, {"\u00e9", "[{a 8 6} {b 18 20}]", 3, 14}} {
			d, s := stored(t, m)
			before := d.Content()
			for _, none := range []string{"", "c", "gone", "aa", "A", "\xc3", "e\u0301", "a\x00", " ", "0123456789abcdefg"} {
				if e := s.Delete(none); e != api.ENONE || d.Content() != before {
					t.Errorf("P25.2: %s: Delete(%q): %d", m.name, none, e)
				}
			}
			must(t, s.Delete(x.name))
			wantAlso(t, s, d, x.left, x.free)
			want, _ := plainWrite(before, x.entry, 1, "")
			if d.Content() != want {
				t.Errorf("P25.2: %s, %d: behind Delete the disk is %q, want %q", m.name, i, d.Content(), want)
			}
			if e := s.Delete(x.name); e != api.ENONE || d.Content() != want {
				t.Errorf("P25.2: %s: Delete(%q) again: %d", m.name, x.name, e)
			}
			if got, e := s.Read(x.name, 0, 1); got != "" || e != api.ENONE {
				t.Errorf("P25.4: %s: Read of a volume that is gone: %.80q, %d", m.name, got, e)
			}
		}
	}
	mine := blank(20)
	s := open(t, mine)
	must(t, s.Create("a", 1))
	must(t, s.Create("b", 1))
	mine.forget()
	must(t, s.Delete("b"))
	if !slices.Equal(mine.changes, []told{{"trim", 1, 1, ""}}) {
		t.Errorf("P25.2: Delete tells the disk %v", mine.changes)
	}
}

// secondName are the errors that Rename and Clone have in common.
var secondName = []struct {
	name, to string
	want     api.Errno
}{
	{"c", "d", api.ENONE}, {"", "d", api.ENONE}, {"gone", "d", api.ENONE}, {"A", "d", api.ENONE}, {"e\u0301", "d", api.ENONE},
	{"c", "", api.ENONE}, {"c", "a b", api.ENONE}, {"c", "a", api.ENONE}, {"c", "c", api.ENONE}, {"", "", api.ENONE}, {"\xff", "\xff", api.ENONE},
	{"a", "", api.EARG}, {"a", "a b", api.EARG}, {"a", "\x7f", api.EARG}, {"a", "\xff", api.EARG}, {"b", "0123456789abcdefg", api.EARG}, {"\u00e9", "\u00e9\x00", api.EARG},
	{"a", "a", api.EORDER}, {"a", "b", api.EORDER}, {"b", "a", api.EORDER}, {"b", "\u00e9", api.EORDER}, {"\u00e9", "\u00e9", api.EORDER},
}

// P25.2: Rename's errors, each by itself, and which comes first.
func TestErrorsOfRename(t *testing.T) {
	for _, m := range makers {
		d, s := stored(t, m)
		before := d.Content()
		for _, x := range secondName {
			if e := s.Rename(x.name, x.to); e != x.want {
				t.Errorf("P25.2: %s: Rename(%q, %q): %d, want %d", m.name, x.name, x.to, e, x.want)
			}
			if d.Content() != before {
				t.Fatalf("R3: a Rename that is refused changes the disk")
			}
			wantAlso(t, s, d, "[{a 8 6} {b 18 20} {\u00e9 38 3}]", 11)
		}
	}
}

// P25.2: Rename writes the volume's own entry, and nothing else; the old name is free
// then. It needs neither a free entry nor a free sector.
func TestRename(t *testing.T) {
	for _, m := range makers {
		d, s := stored(t, m)
		before := d.Content()
		for _, to := range []string{"c", "gone", "0123456789abcdef", "x", "\ufffd", "b2"} {
			was := s.Volumes()[1].Name
			must(t, s.Rename(was, to))
			wantAlso(t, s, d, fmt.Sprintf("[{a 8 6} {%s 18 20} {\u00e9 38 3}]", to), 11)
			if want, _ := plainWrite(before, 2, 1, laid(to, 18, 20)); d.Content() != want {
				t.Fatalf("P25.2: %s: behind Rename the disk is %q, want %q", m.name, d.Content(), want)
			}
			if got, e := s.Read(to, 0, 20); got != strings.Repeat("b", 20*32) || e != api.OK {
				t.Errorf("P25.4: %s: Read of a renamed volume: %.80q, %d", m.name, got, e)
			}
			if got, e := s.Read(was, 0, 1); got != "" || e != api.ENONE {
				t.Errorf("P25.4: %s: Read by the old name: %.80q, %d", m.name, got, e)
			}
		}
		must(t, s.Rename("b2", "b"))
		if d.Content() != before {
			t.Errorf("P25.2: %s: renamed back, the disk is not as it was", m.name)
		}
		must(t, s.Create("c1", 1))
		must(t, s.Create("c2", 7))
		for s.Create(fmt.Sprint("d", len(s.Volumes())), 1) == api.OK {
		}
		must(t, s.Rename("c1", "c3"))
		wantAlso(t, s, d, "[{a 8 6} {c3 14 1} {b 18 20} {\u00e9 38 3} {c2 41 7} {d5 15 1} {d6 16 1} {d7 17 1}]", 0)
	}
}

// P25.2: Rename on a disk whose entries and sectors are all taken.
func TestRenameWithoutRoom(t *testing.T) {
	m := blank(16)
	s := open(t, m)
	for i := range 8 {
		must(t, s.Create(fmt.Sprint("v", i), 1))
	}
	m.forget()
	must(t, s.Rename("v6", "w"))
	if !slices.Equal(m.changes, []told{{"write", 6, 1, laid("w", 14, 1)}}) {
		t.Errorf("P25.2: Rename tells the disk %v", m.changes)
	}
	wantAlso(t, s, m, "[{v0 8 1} {v1 9 1} {v2 10 1} {v3 11 1} {v4 12 1} {v5 13 1} {w 14 1} {v7 15 1}]", 0)
}

// P25.3: Clone's errors: Rename's, then EFULL for no room, and for no entry.
func TestErrorsOfClone(t *testing.T) {
	for _, m := range makers {
		d, s := stored(t, m)
		before := d.Content()
		for _, x := range append(secondName, []struct {
			name, to string
			want     api.Errno
		}{{"b", "c", api.EFULL}, {"b", "gone", api.EFULL}, {"b", "", api.EARG}, {"b", "a", api.EORDER}, {"b", "b", api.EORDER}}...) {
			if e := s.Clone(x.name, x.to); e != x.want {
				t.Errorf("P25.3: %s: Clone(%q, %q): %d, want %d", m.name, x.name, x.to, e, x.want)
			}
			if d.Content() != before {
				t.Fatalf("R3: a Clone that is refused changes the disk")
			}
			wantAlso(t, s, d, "[{a 8 6} {b 18 20} {\u00e9 38 3}]", 11)
		}
	}
}

// P25.3: a clone where no entry is free, though there is room; where there is room for
// one sector less.
func TestCloneWithoutRoom(t *testing.T) {
	m := blank(40)
	s := open(t, m)
	for i := range 8 {
		must(t, s.Create(fmt.Sprint("v", i), 1))
	}
	for _, x := range []struct {
		to   string
		want api.Errno
	}{{"w", api.EFULL}, {"", api.EARG}, {"v1", api.EORDER}} {
		if e := s.Clone("v0", x.to); e != x.want {
			t.Errorf("P25.3: Clone to %q with no entry free: %d", x.to, e)
		}
	}
	for sectors, want := range map[int]api.Errno{17: api.EFULL, 18: api.OK, 19: api.OK} {
		m := blank(sectors)
		s := open(t, m)
		must(t, s.Create("a", 5))
		if e := s.Clone("a", "b"); e != want {
			t.Errorf("P25.3: Clone of 5 sectors on %d: %d, want %d", sectors, e, want)
		}
	}
}

// P25.3: a clone has the volume's bytes, in the sectors and the entry that Create would
// take; nothing else is changed; the bytes go by one command, then the entry.
func TestClone(t *testing.T) {
	for _, m := range makers {
		d, s := stored(t, m)
		p := plainOpen(d.Content())
		for _, x := range [][2]string{{"\u00e9", "one"}, {"a", "two"}, {"one", "\u00e92"}} {
			got, want := s.Clone(x[0], x[1]), p.clone(x[0], x[1])
			if got != want || d.Content() != p.content {
				t.Fatalf("P25.3: %s: Clone(%q, %q): %d, %q; want %d, %q", m.name, x[0], x[1], got, d.Content(), want, p.content)
			}
		}
		wantAlso(t, s, d, "[{a 8 6} {one 14 3} {b 18 20} {\u00e9 38 3} {two 41 6}]", 2)
	}
	mine := &mine{content: laid("a", 10, 3) + strings.Repeat("xyz", 19*32)[:19*32], left: -1}
	s := open(t, mine)
	mine.forget()
	must(t, s.Clone("a", "b"))
	must(t, s.Clone("a", "c"))
	bytes := mine.content[10*32 : 13*32]
	want := []told{{"write", 13, 3, bytes}, {"write", 1, 1, laid("b", 13, 3)}, {"write", 16, 3, bytes}, {"write", 2, 1, laid("c", 16, 3)}}
	if !slices.Equal(mine.changes, want) {
		t.Errorf("P25.3: Clone tells the disk %v, want %v", mine.changes, want)
	}
}

// P25.3: a clone of more sectors than Create takes, on a disk that is great enough.
func TestCloneOfManySectors(t *testing.T) {
	m := &mine{content: laid("a", 20, 600) + strings.Repeat("many", 2000*8), left: -1}
	s := open(t, m)
	must(t, s.Clone("a", "b"))
	wantAlso(t, s, m, "[{a 20 600} {b 620 600}]", 2001-8-1200)
	if m.content[620*32:1220*32] != m.content[20*32:620*32] {
		t.Errorf("P25.3: a clone of 600 sectors has other bytes")
	}
}

// P25.3: a clone and its volume go their own ways: written, renamed, taken away.
func TestCloneStandsAlone(t *testing.T) {
	for _, m := range makers {
		d := m.make(t, example)
		s := open(t, d)
		must(t, s.Create("a", 6))
		must(t, s.Write("a", 0, 6, strings.Repeat("first", 40)))
		was, _ := s.Read("a", 0, 6)
		must(t, s.Clone("a", "b"))
		wantBytes(t, s, "b", was)
		must(t, s.Write("b", 2, 3, "the clone's"))
		wantBytes(t, s, "a", was)
		other, _ := s.Read("b", 0, 6)
		if other != was[:64]+padded("the clone's", 3)+was[160:] {
			t.Errorf("P25.4: %s: the clone, written: %q", m.name, other)
		}
		must(t, s.Write("a", 0, 6, "the volume's"))
		wantBytes(t, s, "b", other)
		must(t, s.Clone("b", "c"))
		must(t, s.Rename("b", "d"))
		must(t, s.Delete("a"))
		wantBytes(t, s, "c", other)
		wantBytes(t, s, "d", other)
		wantAlso(t, s, d, "[{d 14 6} {c 20 6}]", 28)
	}
}

func wantBytes(t *testing.T, s *Store, name, want string) {
	t.Helper()
	if got, e := s.Read(name, 0, len(want)/32); got != want || e != api.OK {
		t.Errorf("P25.4: Read of all of %q: %.300q, %d; want %.300q", name, got, e, want)
	}
}

// P25.1: a Store that goes on tells what one that is opened anew tells, and a second
// one behind it goes on from there.
func TestOpenedAnew(t *testing.T) {
	for _, m := range makers {
		d, s := stored(t, m)
		must(t, s.Rename("a", "x"))
		again := open(t, d)
		must(t, again.Clone("x", "y"))
		must(t, again.Delete("b"))
		third := open(t, d)
		must(t, third.Create("z", 18))
		wantAlso(t, third, d, "[{x 8 6} {y 41 6} {z 14 18} {\u00e9 38 3}]", 7)
	}
}
