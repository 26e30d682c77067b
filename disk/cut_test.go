package disk

import (
	"slices"
	"strings"
	"testing"

	"ferrule/api"
	"ferrule/dev"
)

// steps tells how many steps a device's flash has done, if no operation has failed or
// was cut: chapter 2's seventeen chunks of a page, and two halves of an erase.
func steps(d *dev.Device) int {
	s := d.Stat()
	return 17*s.Programs + 2*s.Erases
}

// wantOneCommand cuts a call on a device at each of its steps: behind a mount the
// device is as it was before the call or as it is after it, and there is just one step
// from which on it is done. (The call is told a copy of the device each time.)
func wantOneCommand(t *testing.T, d *dev.Device, call func(d *dev.Device) api.Errno) {
	t.Helper()
	whole := opened(t, d)
	if e := call(whole); e != api.OK {
		t.Fatalf("P24.2: %d", e)
	}
	before, after, last := d.Content(), whole.Content(), steps(whole)-steps(opened(t, d))
	if before == after || last < 17 {
		t.Fatalf("the tests' own call: %d steps, and the content changes: %v", last, before != after)
	}
	was := before
	for k := range last + 1 {
		c := opened(t, d)
		c.Cut(k)
		want := api.EOFF
		if k == last {
			want = api.OK
		}
		if e := call(c); e != want || c.Power() != (want == api.OK) {
			t.Fatalf("P24.2: cut at %d of %d steps: %d, the power is %v", k, last, e, c.Power())
		}
		c.Mount(-1)
		now := c.Content()
		if now != before && now != after {
			t.Fatalf("P24.2: cut at %d of %d steps: there is neither all of the range nor none: %q", k, last, now)
		}
		if was == after && now == before {
			t.Fatalf("T8: cut at %d of %d steps the call was not, cut ahead of that it was", k, last)
		}
		was = now
	}
	if was != after {
		t.Fatalf("P24.2: with a cut behind all its steps the call is not done")
	}
}

// moments are devices on which a call is cut: a new one, one that was written full,
// and those on which the call writes a snapshot, too, or windows anew (where a Config
// has as many runs as that).
func moments(t *testing.T, c api.Config, call func(d *dev.Device) api.Errno) []*dev.Device {
	t.Helper()
	d := written(t, formatted(t, c), 2)
	l := []*dev.Device{formatted(t, c), written(t, formatted(t, c), 1)}
	dice := dice{7}
	snapshot, rewrite := false, false
	for i := 0; i < 200 && !(snapshot && rewrite); i++ {
		probe := opened(t, d)
		call(probe)
		w := probe.Work()
		if w.Snapshots > 0 && !snapshot || w.Rewrites > 0 && !rewrite {
			l = append(l, opened(t, d))
			snapshot, rewrite = snapshot || w.Snapshots > 0, rewrite || w.Rewrites > 0
		}
		// Neighbours that are written apart in time make many runs.
		d.Write(i*5%c.Capacity, 1, dice.text(32))
	}
	if !snapshot || !rewrite && c.MaxRuns <= c.Capacity {
		t.Fatalf("the tests' own device: a call with a snapshot came: %v, with a window written anew: %v", snapshot, rewrite)
	}
	return l
}

// P24.2, T1: Fill is one command.
func TestFillIsOneCommand(t *testing.T) {
	for _, c := range configs() {
		for _, c := range bothKinds(c) {
			t.Run(name(c), func(t *testing.T) {
				t.Parallel()
				for _, x := range []struct {
					lba, n int
					s      string
				}{{2, 1, "x"}, {5, 11, "abc"}, {c.Capacity - 4, 4, strings.Repeat("long", 100)}} {
					fill := func(d *dev.Device) api.Errno { return Fill(d, x.lba, x.n, x.s) }
					for _, d := range moments(t, c, fill) {
						wantOneCommand(t, d, fill)
					}
				}
				all := func(d *dev.Device) api.Errno { return Fill(d, 0, c.Capacity, "all of it") }
				wantOneCommand(t, written(t, formatted(t, c), 5), all)
			})
		}
	}
}

// P24.2, T1: Copy to a device is one command; the disk that is copied from stays as it
// was, wherever it is cut.
func TestCopyIsOneCommand(t *testing.T) {
	for _, c := range configs() {
		for _, c := range bothKinds(c) {
			t.Run(name(c), func(t *testing.T) {
				t.Parallel()
				for _, m := range makers {
					from := written(t, m.make(t, example), 6)
					was := from.Content()
					copies := func(d *dev.Device) api.Errno { return Copy(from, d, 30, 7, 3) }
					for _, d := range moments(t, c, copies) {
						wantOneCommand(t, d, copies)
					}
					if from.Content() != was {
						t.Errorf("P24.2: %s: what is copied from has changed", m.name)
					}
				}
			})
		}
	}
}

// P24.2, T1: Copy within one device is one command, also where its ranges share
// sectors.
func TestCopyWithinIsOneCommand(t *testing.T) {
	for _, c := range configs() {
		for _, c := range bothKinds(c) {
			t.Run(name(c), func(t *testing.T) {
				t.Parallel()
				for _, x := range [][3]int{{4, 7, 5}, {5, 7, 4}, {4, 7, 9}, {0, 5, c.Capacity - 5}} {
					within := func(d *dev.Device) api.Errno { return Copy(d, d, x[0], x[1], x[2]) }
					for _, d := range moments(t, c, within)[1:] {
						wantOneCommand(t, d, within)
					}
				}
			})
		}
	}
}

// P24.2: a disk of the tests' own whose power goes off when it is read, or when it is
// written, as a device's does.
func TestPowerGoesOffOnTheWay(t *testing.T) {
	a := written(t, array(t, 4), 7)
	was := a.Content()
	gone := &mine{content: noughts(4), badRead: api.EOFF, badWrite: api.EOFF}
	if e := Copy(gone, a, 0, 1, 1); e != api.EOFF || a.Content() != was {
		t.Errorf("P24.2: from a disk that goes off: %d", e)
	}
	if e := Copy(a, gone, 0, 1, 1); e != api.EOFF || a.Content() != was {
		t.Errorf("P24.2: to a disk that goes off: %d", e)
	}
	if same, e := Same(a, gone, 0, 1); same || e != api.EOFF {
		t.Errorf("P24.2: Same of a disk that goes off: %v, %d", same, e)
	}
	if e := Fill(gone, 0, 1, "x"); e != api.EOFF {
		t.Errorf("P24.2: Fill of a disk that goes off: %d", e)
	}
}

// P24.2, P18.6: more blocks fail than may: what the device answers is answered.
func TestDeadDevice(t *testing.T) {
	for _, c := range bothKinds(fitted(40, 4, 0, 4)) {
		d, a := written(t, formatted(t, c), 8), array(t, 4)
		d.Fail(0)
		d.Write(0, 1, "x")
		// A device that answers the same as the one that is asked.
		twin := opened(t, written(t, formatted(t, c), 8))
		twin.Fail(0)
		twin.Write(0, 1, "x")
		want := twin.Write(1, 2, "")
		if want == api.OK {
			t.Fatalf("the tests' own device is not dead")
		}
		img := d.Image()
		if e := Fill(d, 1, 2, "x"); e != want {
			t.Errorf("P24.2: Fill: %d, want %d", e, want)
		}
		if e := Copy(a, d, 0, 2, 1); e != want {
			t.Errorf("P24.2: Copy: %d, want %d", e, want)
		}
		if !slices.Equal(d.Image(), img) {
			t.Errorf("R3: a refused call changes the flash")
		}
	}
}
