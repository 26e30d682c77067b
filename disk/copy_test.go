package disk

import (
	"slices"
	"strings"
	"testing"

	"ferrule/api"
	"ferrule/dev"
)

// maker makes a disk of one kind, of a Config's Capacity.
type maker struct {
	name string
	make func(t *testing.T, c api.Config) Disk
}

// makers are of all kinds.
var makers = []maker{
	{"runs", func(t *testing.T, c api.Config) Disk { return formatted(t, c) }},
	{"flat", func(t *testing.T, c api.Config) Disk { return formatted(t, bothKinds(c)[1]) }},
	{"array", func(t *testing.T, c api.Config) Disk { return array(t, c.Capacity) }},
	{"mine", func(t *testing.T, c api.Config) Disk { return &mine{content: noughts(c.Capacity)} }},
}

// wantCopy copies between two disks (or within one), and holds both against the plain
// form.
func wantCopy(t *testing.T, from, to Disk, lba, n, at int) api.Errno {
	t.Helper()
	p, q := plain(from.Content()), plain(to.Content())
	if from == to {
		q = p
	}
	want := p.copyTo(q, lba, n, at)
	if e := Copy(from, to, lba, n, at); e != want {
		t.Fatalf("P24.2: Copy(%T, %T, %d, %d, %d): %d, want %d", from, to, lba, n, at, e, want)
	}
	if from.Content() != string(p) || to.Content() != string(q) {
		t.Fatalf("P24.2: Copy(%T, %T, %d, %d, %d): %q, %q", from, to, lba, n, at, from.Content(), to.Content())
	}
	return want
}

// P24.2, P24.3: from each kind to each kind, ranges at both ends and of all, and any
// ranges; behind a copy to the same place both are the Same there.
func TestCopyFromEachToEach(t *testing.T) {
	less := configs()[1]
	for _, from := range makers {
		for _, to := range makers {
			for seed, c := range []api.Config{example, less} {
				a, b := written(t, from.make(t, example), 10), written(t, to.make(t, c), 20)
				most := min(48, c.Capacity)
				for _, x := range [][3]int{{0, 1, 0}, {0, 1, c.Capacity - 1}, {47, 1, 0}, {48 - 5, 5, c.Capacity - 5}, {3, 4, 9}, {9, 4, 3}} {
					if e := wantCopy(t, a, b, x[0], x[1], x[2]); e != api.OK {
						t.Fatalf("P24.2: %s to %s: Copy%v: %d", from.name, to.name, x, e)
					}
				}
				d := dice{uint64(seed)}
				for range 25 {
					n := 1 + d.roll(min(most, 9))
					wantCopy(t, a, b, d.roll(48-n+1), n, d.roll(c.Capacity-n+1))
				}
				for _, x := range [][2]int{{0, most}, {1, most - 1}, {most - 1, 1}, {2, 5}} {
					written(t, b, 30)
					wantCopy(t, a, b, x[0], x[1], x[0])
					if same, e := Same(a, b, x[0], x[1]); !same || e != api.OK {
						t.Errorf("P24.3: %s to %s: copied %v: Same %v, %d", from.name, to.name, x, same, e)
					}
				}
			}
		}
	}
}

// P24.2: each range of small disks, the wrong ones, too; within one disk, where the
// two ranges may share sectors, as between two.
func TestCopyEachRange(t *testing.T) {
	for _, from := range []int{1, 2, 5} {
		for _, to := range []int{1, 4, 5} {
			for lba := -2; lba <= from+1; lba++ {
				for n := -2; n <= max(from, to)+2; n++ {
					for at := -2; at <= to+1; at++ {
						wantCopy(t, written(t, array(t, from), 1), written(t, array(t, to), 2), lba, n, at)
						one := written(t, array(t, from), 3)
						wantCopy(t, one, one, lba, n, at)
					}
				}
			}
		}
	}
}

// P24.2: within one device: forward and back by each distance, so that ranges share
// all, some or none of their sectors.
func TestCopyWithinADevice(t *testing.T) {
	for _, c := range bothKinds(example) {
		d := written(t, formatted(t, c), 4)
		for n := 1; n <= 9; n += 2 {
			for step := -10; step <= 10; step++ {
				if e := wantCopy(t, d, d, 20, n, 20+step); e != api.OK {
					t.Fatalf("P24.2: %d", e)
				}
			}
			written(t, d, 5+n)
		}
		wantCopy(t, d, d, 0, 48, 0)
		wantCopy(t, d, d, 0, 47, 1)
		wantCopy(t, d, d, 1, 47, 0)
		wantCopy(t, d, d, 1, 47, 2)
		wantCopy(t, d, d, 2, 47, 1)
	}
}

// P24.2, R3: numbers that are wrong by far, in each place by itself and together.
func TestCopyFarAway(t *testing.T) {
	for _, m := range makers {
		a, b := written(t, m.make(t, example), 6), written(t, m.make(t, example), 7)
		was := a.Content() + b.Content()
		for _, x := range far {
			for _, y := range append([]int{0, 1, 47}, far...) {
				for _, z := range [][3]int{{x, y, 0}, {y, x, 0}, {0, 1, x}, {y, 1, x}, {0, x, y}, {x, 1, y}, {x, y, x}} {
					if e := Copy(a, b, z[0], z[1], z[2]); e != api.EARG {
						t.Errorf("P24.2: %s: Copy%v: %d", m.name, z, e)
					}
				}
			}
		}
		if a.Content()+b.Content() != was {
			t.Errorf("R3: %s: a refused Copy changes something", m.name)
		}
	}
}

// P24.2: of both errors it is the first one: the reading comes ahead of the writing.
func TestCopyWhichError(t *testing.T) {
	a, on, dark := written(t, array(t, 4), 8), written(t, formatted(t, example), 9), off(t, example)
	for _, x := range []struct {
		what       string
		from, to   Disk
		lba, n, at int
		want       api.Errno
	}{
		{"nothing is wrong", a, on, 0, 4, 44, api.OK},
		{"wrong for from", a, on, 1, 4, 0, api.EARG},
		{"wrong for to", on, a, 0, 4, 1, api.EARG},
		{"wrong for both", a, a, 4, 1, 4, api.EARG},
		{"from is off", dark, a, 0, 1, 0, api.EOFF},
		{"from is off, and wrong for it", dark, a, 48, 1, 0, api.EARG},
		{"from is off, and wrong for to", dark, a, 0, 1, 4, api.EOFF},
		{"from is off, and wrong for both", dark, a, 48, 1, 4, api.EARG},
		{"to is off", a, dark, 0, 1, 0, api.EOFF},
		{"to is off, and wrong for it", a, dark, 0, 1, 48, api.EARG},
		{"to is off, and wrong for from", a, dark, 4, 1, 0, api.EARG},
		{"to is off, and wrong for both", a, dark, 4, 1, 48, api.EARG},
		{"both are off", dark, off(t, example), 0, 1, 0, api.EOFF},
		{"both are off, and wrong for to", dark, off(t, example), 0, 1, 48, api.EOFF},
		{"one that is off", dark, dark, 0, 1, 47, api.EOFF},
		{"another one's errors", &mine{content: noughts(4), badRead: api.EBAD}, &mine{content: noughts(4), badWrite: api.EFULL}, 0, 1, 0, api.EBAD},
		{"another one's error, and to is off", &mine{content: noughts(4), badRead: api.ECRC}, dark, 0, 1, 0, api.ECRC},
		{"another one's error, and wrong for to", &mine{content: noughts(4), badRead: 99}, a, 0, 1, 4, 99},
		{"to is another one with an error", a, &mine{content: noughts(4), badWrite: api.EDEAD}, 0, 1, 0, api.EDEAD},
		{"to is another one with an error that has no name", a, &mine{content: noughts(4), badWrite: -1}, 0, 1, 0, -1},
		{"from is off, and to is another one with an error", dark, &mine{content: noughts(4), badWrite: api.EFULL}, 0, 1, 0, api.EOFF},
		{"wrong for from, and to is another one with an error", a, &mine{content: noughts(4), badWrite: api.EFULL}, 4, 1, 0, api.EARG},
	} {
		was := a.Content() + on.Content()
		if e := Copy(x.from, x.to, x.lba, x.n, x.at); e != x.want {
			t.Errorf("P24.2: %s: %d, want %d", x.what, e, x.want)
		}
		if x.want != api.OK && a.Content()+on.Content() != was {
			t.Errorf("R3: %s: something has changed", x.what)
		}
	}
}

// P24.2: with an error of the reading nothing is told to the disk that is written.
func TestCopyWithNothingRead(t *testing.T) {
	for _, from := range []Disk{off(t, example), array(t, 1), &mine{badRead: api.EBAD}} {
		to := &mine{content: noughts(4)}
		if e := Copy(from, to, 0, 2, 0); e == api.OK || to.all != nil {
			t.Errorf("P24.2: from %T: %d, and was told %v", from, e, to.all)
		}
	}
}

// P24.2: it is one command, a Write of just that range's bytes, of noughts, too: a
// disk of the tests' own is told it, and a device's flash is as that of a device that
// was told it.
func TestCopyIsOneWrite(t *testing.T) {
	for _, m := range makers {
		from := written(t, m.make(t, example), 11)
		from.Trim(5, 3)
		from.Write(20, 9, strings.Repeat("\xff\x00", 200))
		for _, x := range [][3]int{{0, 1, 0}, {0, 48, 0}, {4, 5, 40}, {5, 3, 2}, {20, 9, 21}} {
			want, _ := from.Read(x[0], x[1])
			to := &mine{content: noughts(48)}
			if e := Copy(from, to, x[0], x[1], x[2]); e != api.OK || !slices.Equal(to.all, []told{{"write", x[2], x[1], want}}) {
				t.Errorf("P24.2: %s: Copy%v: %d, told %v", m.name, x, e, to.all)
			}
			for _, c := range bothKinds(example) {
				one, other := formatted(t, c), formatted(t, c)
				Copy(from, one, x[0], x[1], x[2])
				other.Write(x[2], x[1], want)
				wantAlike(t, one, other)
			}
		}
		if x, ok := from.(*dev.Device); ok {
			other := opened(t, x)
			want, _ := x.Read(4, 9)
			Copy(x, x, 4, 9, 6)
			other.Write(6, 9, want)
			wantAlike(t, x, other)
		}
	}
}

// wantAlike asks that two devices have done the same on their flash.
func wantAlike(t *testing.T, a, b *dev.Device) {
	t.Helper()
	if !slices.Equal(a.Image(), b.Image()) || !slices.Equal(a.Runs(), b.Runs()) {
		t.Errorf("P24.2: the flash is not as that of a device that was told the command: %v, %v", a.Runs(), b.Runs())
	}
}

// P24.2, P18.7: a disk that is copied from is told nothing, and its flash does no
// step: a cut that waits on it is still there.
func TestCopyLeavesFrom(t *testing.T) {
	m := written(t, &mine{content: noughts(4)}, 12)
	m.all = nil
	if e := Copy(m, array(t, 4), 0, 4, 0); e != api.OK || m.all != nil {
		t.Errorf("P24.2: %d; the disk that is read was told %v", e, m.all)
	}
	for _, c := range bothKinds(example) {
		d, to := written(t, formatted(t, c), 13), array(t, 48)
		was := d.Image()
		d.Cut(0)
		for _, e := range []api.Errno{Copy(d, to, 0, 48, 0), Copy(d, formatted(t, c), 3, 9, 1), Copy(d, to, 40, 9, 0), Copy(d, to, 0, 9, 40)} {
			if e != api.OK && e != api.EARG {
				t.Errorf("P24.2: from a device with a cut ahead: %d", e)
			}
		}
		if !d.Power() || !slices.Equal(d.Image(), was) || to.Content() != d.Content() {
			t.Errorf("P24.2: a device that is read is changed")
		}
		if e := Copy(d, d, 0, 1, 1); e != api.EOFF || d.Power() {
			t.Errorf("P24.2: within a device with a cut ahead: %d", e)
		}
	}
}
