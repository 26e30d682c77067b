package dev_test

import (
	"slices"
	"testing"

	"ferrule/api"
	"ferrule/dev"
)

// failConfigs are Configs in which each operation of each kind of command fails.
func failConfigs() []api.Config {
	return []api.Config{
		{Blocks: 36, Pages: 8, Capacity: 48, Spare: 2, MaxRuns: 46, Window: 8},
		tight(40, 4, 4, 4), least(4, 4, 4), tight(32, 8, 1, 8), tight(64, 8, 4, 8),
	}
}

// eachFailure lets each operation of a moment's command fail, the first one first,
// till it has fewer of them.
func (m moment) eachFailure(t *testing.T, also func(r *rig, place int)) {
	t.Helper()
	for k := 0; ; k++ {
		r := m.resume(t)
		bad := r.one().Stat().Bad
		r.fail(k)
		if e := r.play(m.next); e != api.OK {
			r.fatal("T1, T5: with a failure: %d", e)
		}
		r.check()
		now := r.one().Stat().Bad
		if now > bad+1 || now == bad && k == 0 {
			r.fatal("P18.4: one failure: %d blocks bad, then %d", bad, now)
		}
		if now == bad {
			return
		}
		also(r, k)
	}
}

// T1, T5, T6: each operation of a command fails once: of plain ones, of snapshots,
// of collections, of windows written anew; and then others, till as many blocks are
// bad as may be.
func TestEachFailure(t *testing.T) {
	for i, c := range failConfigs() {
		for j, m := range moments(t, c, "write", "trim", "write snapshot", "trim snapshot") {
			t.Run(name(c)+" "+m.what, func(t *testing.T) {
				t.Parallel()
				d := &dice{uint64(i*100 + j)}
				m.eachFailure(t, func(r *rig, place int) {
					for range 40 {
						if r.one().Stat().Bad == c.Spare {
							break
						}
						r.fail(d.roll(6))
						r.play(m.next)
						r.check()
					}
					r.fail(-1)
					r.mountCut()
					r.goOn(m)
				})
			})
		}
	}
}

// T1, T7: a failure and a cut, in one call and one behind the other.
func TestFailuresAndCuts(t *testing.T) {
	for i, c := range failConfigs() {
		for j, m := range moments(t, c) {
			t.Run(name(c)+" "+m.what, func(t *testing.T) {
				t.Parallel()
				d := &dice{uint64(i*100 + j)}
				for _, place := range []int{0, 1, 2, 3, 5, 8} {
					for steps := d.roll(30); steps < 330; steps += 20 + d.roll(40) {
						r := m.resume(t)
						r.fail(place)
						r.cut(steps)
						r.play(m.next)
						r.check()
						for !r.one().Power() {
							r.mount(d.roll(30) - 10)
							r.check()
						}
						r.cut(d.roll(200))
						r.play(m.next)
						r.check()
						r.fail(-1)
						r.mountCut()
						r.goOn(m)
					}
				}
			})
		}
	}
}

// T1, T5: as many blocks fail as may, one behind the other, at the same place of
// each command; each time all is there.
func TestFailuresInARow(t *testing.T) {
	for _, c := range append(failConfigs(), great()...) {
		t.Run(name(c), func(t *testing.T) {
			t.Parallel()
			for place := range 5 {
				r := newRig(t, c)
				s := newScript(c, place, 4)
				for range c.Spare {
					r.oneMoreBad(s, place)
				}
				r.rolled(s, 40)
			}
		})
	}
}

// oneMoreBad lets an operation fail, at a place behind some commands, and plays on
// till it has.
func (r *rig) oneMoreBad(s *script, place int) {
	r.t.Helper()
	was := r.one().Stat().Bad
	for range 20 {
		r.play(s.next())
	}
	r.check()
	r.fail(place)
	for k := 0; k < 60 && r.one().Stat().Bad == was; k++ {
		r.play(s.next())
	}
	r.check()
	if n := r.one().Stat().Bad; n != was+1 {
		r.fatal("P18.4: %d blocks bad, want %d", n, was+1)
	}
	if was%2 == 0 {
		r.mount(-1)
	}
}

// P18.6: more blocks fail than may: whatever is answered, it is one of the errors
// that the chapter names, no call panics, and each one ends.
func TestDead(t *testing.T) {
	for _, c := range []api.Config{example, tight(40, 4, 0, 4), least(4, 4, 4)} {
		for place := range 8 {
			d := format(t, c)
			s := newScript(c, place, 4)
			bad := -1
			for range 400 {
				if d.Stat().Bad > bad {
					bad = d.Stat().Bad
					d.Fail(place)
				}
				x := s.next()
				var e api.Errno
				if x.trim {
					e = d.Trim(x.lba, x.n)
				} else {
					e = d.Write(x.lba, x.n, x.data)
				}
				dead := d.Stat().Bad > c.Spare
				if e != api.OK && (e != api.EDEAD && e != api.EOFF || !dead) {
					t.Fatalf("P18.6: %v: %d, %d blocks bad", c, e, d.Stat().Bad)
				}
				if s.roll(20) == 0 {
					if e := d.Mount(-1); e != api.OK && (e != api.EDEAD || !dead || d.Power()) {
						t.Fatalf("P18.6: %v: Mount: %d", c, e)
					}
				}
				if _, e := d.Read(0, c.Capacity); e != api.OK && !dead {
					t.Fatalf("P18.6: %v: Read: %d", c, e)
				}
			}
			if d.Stat().Bad <= c.Spare {
				t.Fatalf("P18.4: %v: %d blocks bad", c, d.Stat().Bad)
			}
			if o, e := dev.Open(c, d.Image(), -1); o != nil || e != api.EDEAD && e != api.ELOST {
				t.Errorf("P18.1: Open of a dead one: %d", e)
			}
		}
	}
}

// P18.6 does not touch a device of which just as many blocks are bad as may be.
func TestNotDead(t *testing.T) {
	for _, c := range failConfigs() {
		d := format(t, c)
		for d.Stat().Bad < c.Spare {
			d.Fail(0)
			if e := d.Write(0, 1, "x"); e != api.OK {
				t.Fatalf("T5: %v: %d", c, e)
			}
		}
		if e := d.Mount(-1); e != api.OK {
			t.Errorf("P18.3: %v: Mount with as many bad blocks as may be: %d", c, e)
		}
		o, e := dev.Open(c, d.Image(), -1)
		if e != api.OK || o.Content() != d.Content() || o.Stat().Bad != c.Spare || !slices.Equal(o.Runs(), d.Runs()) {
			t.Errorf("P18.1: %v: Open with as many bad blocks as may be: %d", c, e)
		}
	}
}

// P18.4: a failure can be taken away; one that is far ahead does nothing.
func TestFailTakenAway(t *testing.T) {
	for _, k := range []int{-1, -2, -1 << 63, 1 << 62, 1<<63 - 1} {
		d := format(t, example)
		d.Fail(0)
		d.Fail(k)
		if e := d.Write(0, 48, "x"); e != api.OK || d.Stat().Bad != 0 {
			t.Errorf("P18.4: Fail(%d): Write: %d, %d blocks bad", k, e, d.Stat().Bad)
		}
	}
	d := format(t, example)
	d.Fail(0)
	if d.Mount(-1); d.Write(0, 1, "x") != api.OK || d.Stat().Bad != 1 {
		t.Errorf("P18.4: a mount takes a failure away: %d blocks bad", d.Stat().Bad)
	}
}
