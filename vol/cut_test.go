package vol

import (
	"fmt"
	"strings"
	"testing"

	"ferrule/api"
	"ferrule/dev"
	"ferrule/disk"
)

// steps tells how many steps a device's flash has done, if no operation has failed or
// was cut: chapter 2's seventeen chunks of a page, and two halves of an erase.
func steps(d *dev.Device) int {
	s := d.Stat()
	return 17*s.Programs + 2*s.Erases
}

// found is what Open tells of a disk: the volumes with their bytes.
func found(t *testing.T, d disk.Disk) string {
	t.Helper()
	return view(open(t, d))
}

// wantWholeOrNot cuts a call on a device at each of its steps: behind a mount Open
// tells the volumes, with their bytes, as they were before the call or as they are
// after it, and there is just one step from which on it is done. (The call is told a
// copy of the device each time.)
func wantWholeOrNot(t *testing.T, d *dev.Device, c change) {
	t.Helper()
	whole := copied(t, d)
	begun := steps(whole)
	must(t, c.call(open(t, whole)))
	before, after, last := found(t, d), found(t, whole), steps(whole)-begun
	if before == after || last < 17 {
		t.Fatalf("the tests' own call: %s: %d steps, and something changes: %v", c.name, last, before != after)
	}
	was := before
	for k := range last + 1 {
		x := copied(t, d)
		s := open(t, x)
		x.Cut(k)
		want := api.EOFF
		if k == last {
			want = api.OK
		}
		if e := c.call(s); e != want || x.Power() != (want == api.OK) {
			t.Fatalf("P25.5: %s cut at %d of %d steps: %d, the power is %v", c.name, k, last, e, x.Power())
		}
		must(t, x.Mount(-1))
		now := found(t, x)
		if now != before && now != after {
			t.Fatalf("T10: %s cut at %d of %d steps: the volumes are neither as before nor as after it: %s", c.name, k, last, now)
		}
		if was == after && now == before {
			t.Fatalf("T8: %s cut at %d of %d steps is not done, cut ahead of that it is", c.name, k, last)
		}
		was = now
	}
	if was != after {
		t.Fatalf("T10: %s with a cut behind all its steps is not done", c.name)
	}
}

// settled is a device like those that `stored` makes, of any Config.
func settled(t *testing.T, c api.Config) *dev.Device {
	t.Helper()
	d := formatted(t, c)
	s := open(t, d)
	for _, v := range []Entry{{"a", 8, 6}, {"gone", 14, 4}, {"b", 18, c.Capacity - 28}, {"\u00e9", c.Capacity - 10, 3}} {
		must(t, s.Create(v.Name, v.Len))
		must(t, s.Write(v.Name, 0, v.Len, strings.Repeat(v.Name+v.Name, 16*v.Len)))
	}
	must(t, s.Delete("gone"))
	return d
}

// cutAt are the devices on which a call is cut: one that stands as it was made, and
// those on which the call writes a snapshot, or windows anew, or collects a block, too.
func cutAt(t *testing.T, c api.Config, x change) []*dev.Device {
	t.Helper()
	d := settled(t, c)
	l := []*dev.Device{copied(t, d)}
	s, dice := open(t, d), dice{5}
	var had dev.Work
	for i := 0; i < 150; i++ {
		probe := copied(t, d)
		x.call(open(t, probe))
		w := probe.Work()
		if w.Snapshots > 0 && had.Snapshots == 0 || w.Rewrites > 0 && had.Rewrites == 0 || w.Collections > 0 && had.Collections == 0 {
			l = append(l, copied(t, d))
			had.Snapshots += w.Snapshots
			had.Rewrites += w.Rewrites
			had.Collections += w.Collections
		}
		// Neighbours that are written apart in time make many runs.
		must(t, s.Write("b", i*5%(c.Capacity-28), 1, dice.text(32)))
	}
	if had.Snapshots == 0 {
		t.Fatalf("the tests' own device: no call with a snapshot came")
	}
	return l
}

// T10: each call that changes something, cut at each of its steps, on devices of both
// kinds and several sizes.
func TestCuts(t *testing.T) {
	for _, c := range configs() {
		for _, c := range bothKinds(c) {
			for _, x := range changes {
				t.Run(name(c)+" "+x.name, func(t *testing.T) {
					t.Parallel()
					if x.name == "Write of all" {
						x.call = func(s *Store) api.Errno { return s.Write("b", 0, c.Capacity-28, "new") }
					}
					for _, d := range cutAt(t, c, x) {
						wantWholeOrNot(t, d, x)
					}
				})
			}
		}
	}
}

// T10: a device whose cut is behind the call's last step, and one without: the same.
func TestCutBehindTheCall(t *testing.T) {
	for _, c := range bothKinds(example) {
		for _, x := range changes {
			one, other := settled(t, c), settled(t, c)
			begun := steps(one)
			must(t, x.call(open(t, one)))
			other.Cut(steps(one) - begun)
			s := open(t, other)
			must(t, x.call(s))
			if got, want := view(s), found(t, one); got != want {
				t.Errorf("P25: %s with a cut behind it: %s, want %s", x.name, got, want)
			}
			if e := s.Create("later", 1); e != api.EOFF {
				t.Errorf("P25.5: behind the cut: %d", e)
			}
			must(t, other.Mount(-1))
			if found(t, other) != found(t, one) {
				t.Errorf("T10: %s with a cut behind it: %s", x.name, found(t, other))
			}
		}
	}
}

// T10: a device is cut, mounted and opened anew again and again, at each step behind
// the last one, till the call comes through.
func TestCutAgainAndAgain(t *testing.T) {
	for _, c := range bothKinds(example) {
		for _, x := range changes {
			d := settled(t, c)
			before := found(t, d)
			for k := 0; ; k += 1 + k%7 {
				s := open(t, d)
				d.Cut(k)
				e := x.call(s)
				must(t, d.Mount(-1))
				if now := found(t, d); now != before || e == api.OK {
					after := fmt.Sprint(open(t, d).Volumes())
					if strings.Contains(x.name, "Create") && !strings.Contains(after, "new") {
						t.Errorf("T10: %s: %s", x.name, after)
					}
					break
				}
				if k > 1000 {
					t.Fatalf("T10: %s never comes through", x.name)
				}
			}
			if found(t, d) == before {
				t.Errorf("T10: %s is not done", x.name)
			}
		}
	}
}
