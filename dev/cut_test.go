package dev_test

import (
	"bytes"
	"slices"
	"strings"
	"testing"

	"ferrule/api"
	"ferrule/dev"
)

// mountCut mounts with a cut after 0 steps, after one, and so on, till a mount comes
// to its end, and then once more without a cut. The flash must tell the content
// behind each of them.
func (r *rig) mountCut() {
	r.t.Helper()
	for k := 0; ; k++ {
		e := r.mount(k)
		r.check()
		if e == api.OK {
			break
		}
		if k > 100000 {
			r.fatal("P18.3: no mount comes to its end")
		}
	}
	r.mount(-1)
	r.check()
}

// eachCut cuts a moment's command after 0 steps, after one, and so on, till it ends;
// it tells how many steps it has.
func (m moment) eachCut(t *testing.T) int {
	t.Helper()
	after := false
	for k := 0; ; k++ {
		r := m.resume(t)
		r.cut(k)
		before := r.array.Content()
		e := r.play(m.next)
		r.check()
		if e == api.OK {
			r.goOn(m)
			return k
		}
		done := r.after.Content()
		if k%3 == 0 {
			r.reopen()
		}
		r.mountCut()
		// Of one command there is one moment: once it was done it always is.
		if before != done && (r.array.Content() == done) != after {
			if after {
				r.fatal("T8: cut after %d steps it is not done, but after fewer it was", k)
			}
			after = true
		}
		r.goOn(m)
	}
}

// goOn plays what comes behind a moment.
func (r *rig) goOn(m moment) {
	r.t.Helper()
	r.cut(-1)
	m.goOn(r)
}

// cutConfigs are Configs in which each step of each kind of command is cut.
func cutConfigs() []api.Config {
	return []api.Config{
		{Blocks: 36, Pages: 8, Capacity: 48, Spare: 2, MaxRuns: 46, Window: 8},
		tight(40, 4, 0, 4), least(4, 4, 4), tight(32, 8, 1, 8),
	}
}

// T1, T4, T7, T8: each step of a command is cut once: of plain ones, of such with
// a snapshot, a collection, a window written anew; the mounts behind it, too.
func TestEachCut(t *testing.T) {
	for _, c := range cutConfigs() {
		for _, m := range moments(t, c, "write", "trim", "write snapshot", "trim snapshot") {
			t.Run(name(c)+" "+m.what, func(t *testing.T) {
				t.Parallel()
				if n := m.eachCut(t); n < api.PageChunks {
					t.Errorf("P18.2: %s: done in %d steps", m.what, n)
				}
			})
		}
	}
}

// What must come for the cuts to mean something.
func TestMomentsCome(t *testing.T) {
	c := api.Config{Blocks: 36, Pages: 8, Capacity: 48, Spare: 2, MaxRuns: 46, Window: 8}
	moments(t, c, "write", "trim", "write snapshot", "trim snapshot", "write collection", "write collections", "write snapshot collection", "write rewrite", "write snapshot rewrite")
	moments(t, tight(40, 4, 0, 4), "write collection", "write snapshot collections")
}

// T1, T7: a command is cut, and the next one, and the one behind it, again and
// again, at rolled steps: nothing is left over that is in the way.
func TestCutAgain(t *testing.T) {
	for i, c := range cutConfigs() {
		for j, m := range moments(t, c) {
			t.Run(name(c)+" "+m.what, func(t *testing.T) {
				t.Parallel()
				d := &dice{uint64(i*100 + j)}
				for range 12 {
					r := m.resume(t)
					for range 12 {
						r.cut(d.roll(160))
						r.play(m.next)
						r.check()
						for !r.one().Power() {
							r.mount(d.roll(60) - 10)
							r.check()
						}
					}
					r.goOn(m)
				}
			})
		}
	}
}

// T6, T7: snapshots are cut again and again, those of great writes, of small ones and
// of trims, so that they lie elsewhere each time: mounts read no more than they may,
// and a snapshot comes to its end at last.
func TestSnapshotCutAgain(t *testing.T) {
	for i, c := range append(cutConfigs(), tight(64, 4, 0, 2)) {
		for j, m := range moments(t, c) {
			if !strings.Contains(m.what, "snapshot") {
				continue
			}
			t.Run(name(c)+" "+m.what, func(t *testing.T) {
				t.Parallel()
				d := &dice{uint64(i*100 + j)}
				r := m.resume(t)
				for range 60 {
					n := 1 + d.roll(c.Capacity)
					r.cut(17*(n*d.roll(2)+1+d.roll(8)) + d.roll(3))
					if d.roll(3) == 0 {
						r.trim(0, n)
					} else {
						r.write(c.Capacity-n, n, d.data(n))
					}
					r.check()
					r.mount(-1)
					r.check()
				}
				r.goOn(m)
			})
		}
	}
}

// T6, T7: a snapshot that lies in several blocks is cut in each of them, again and
// again: what is left of one is gone when the next one is begun.
func TestLongSnapshotCutAgain(t *testing.T) {
	for _, c := range []api.Config{tight(64, 4, 0, 1), tight(64, 4, 0, 4), tight(64, 5, 2, 5)} {
		r := newRig(t, c)
		// Each sector is a run of its own; then the log is filled.
		for i := range c.Capacity {
			r.write(i*5%c.Capacity, 1, "x")
		}
		for {
			d := open(t, c, r.one().Image())
			if d.Trim(0, 1); d.Work().Snapshots > 0 {
				break
			}
			r.write(0, 1, "y")
		}
		r.check()
		for k := range 150 {
			n := 1 + k%3*c.Pages
			r.cut(17*(n+1+k%8) + k%5)
			if r.write(c.Capacity-n, n, "z") == api.OK {
				break
			}
			r.check()
			r.mount(-1)
			r.check()
		}
	}
}

// P18.2, P18.7: a cut that is set to as many steps as a call has does not touch it;
// Read, and what is refused, does none.
func TestStepsOfACall(t *testing.T) {
	d := format(t, example)
	if e := d.Write(0, 3, "abc"); e != api.OK {
		t.Fatalf("P18.2: Write: %d", e)
	}
	d.Cut(0)
	for _, x := range [][2]int{{0, 1}, {0, 48}, {-1, 1}, {48, 1}, {0, 49}, {0, 0}, {1 << 62, 1 << 62}} {
		right := x[0] == 0 && (x[1] == 1 || x[1] == 48)
		if _, e := d.Read(x[0], x[1]); (e == api.OK) != right || !d.Power() {
			t.Errorf("P18.7: Read(%d, %d): %d, the power is %v", x[0], x[1], e, d.Power())
		}
		if right {
			continue
		}
		if e := d.Write(x[0], x[1], "x"); e != api.EARG || !d.Power() {
			t.Errorf("P18.7: Write(%d, %d): %d, the power is %v", x[0], x[1], e, d.Power())
		}
		if e := d.Trim(x[0], x[1]); e != api.EARG || !d.Power() {
			t.Errorf("P18.7: Trim(%d, %d): %d, the power is %v", x[0], x[1], e, d.Power())
		}
	}
	d.Content()
	d.Runs()
	d.Stat()
	d.Image()
	d.Wear()
	if !d.Power() {
		t.Errorf("P18.7: looking does a step")
	}
	if e := d.Write(0, 1, "x"); e != api.EOFF || d.Power() {
		t.Errorf("P18.2: Write, cut at once: %d", e)
	}
	img := d.Image()
	for range 3 {
		if d.Write(0, 1, "x") != api.EOFF || d.Trim(0, 1) != api.EOFF || !bytes.Equal(img, d.Image()) {
			t.Errorf("P18.7: with the power off something is done")
		}
	}
}

// P18.4: a cut can be taken away, and be set anew; a mount takes it away, too.
func TestCutTakenAway(t *testing.T) {
	for _, k := range []int{-1, -2, -1 << 63, 1 << 62, 1<<63 - 1} {
		d := format(t, example)
		d.Cut(0)
		d.Cut(k)
		if e := d.Write(0, 48, "x"); e != api.OK {
			t.Errorf("P18.4: Cut(%d): Write: %d", k, e)
		}
		d.Cut(0)
		if e := d.Mount(k); e != api.OK || d.Write(0, 48, "y") != api.OK {
			t.Errorf("P18.3: Mount(%d): %d", k, e)
		}
	}
	d := format(t, example)
	d.Cut(0)
	if d.Write(0, 1, "x") != api.EOFF || d.Mount(-1) != api.OK || d.Write(0, 1, "x") != api.OK {
		t.Errorf("P18.3: behind a mount a cut is still there")
	}
}

// P18.3: a cut that Mount sets holds on behind it, for the calls that come.
func TestMountSetsACut(t *testing.T) {
	d := format(t, example)
	steps := 0
	for ; ; steps++ {
		if e := d.Mount(steps); e != api.OK && e != api.EOFF {
			t.Fatalf("P18.3: Mount(%d): %d", steps, e)
		} else if e == api.OK {
			break
		}
	}
	// Now the mount has done all of its steps, and none is left.
	if e := d.Write(0, 1, "x"); e != api.EOFF || d.Power() {
		t.Errorf("P18.3: behind Mount(%d): Write: %d", steps, e)
	}
	o, e := dev.Open(example, format(t, example).Image(), 30)
	if e != api.OK || !o.Power() {
		t.Fatalf("P18.1: Open with a cut at 30: %d", e)
	}
	for range 3 {
		e = o.Trim(0, 1)
	}
	if e != api.EOFF || o.Power() {
		t.Errorf("P18.1: Open with a cut at 30, then three trims: %d", e)
	}
}

// T7: what a cut leaves of a command: its data pages are whole ahead of its record.
func TestOrderOnTheFlash(t *testing.T) {
	var rd reader
	d := format(t, example)
	d.Write(0, 8, "old")
	img := d.Image()
	old, _ := rd.read(example, img)
	for k := 0; ; k++ {
		d := open(t, example, img)
		d.Cut(k)
		e := d.Write(2, 5, strings.Repeat("new", 60))
		now, why := rd.read(example, d.Image())
		if why != "" {
			t.Fatalf("T7: cut after %d steps: %s", k, why)
		}
		if e == api.OK {
			break
		}
		if now.records > old.records != (now.content != old.content) || now.records == old.records && !slices.Equal(now.pages, old.pages) {
			t.Fatalf("T7: cut after %d steps: %v", k, now)
		}
	}
}
