package dev_test

import (
	"testing"

	"ferrule/api"
	"ferrule/blocks"
	"ferrule/dev"
)

// parts tells how many runs a device has, cut where blocks end.
func parts(t *testing.T, d *dev.Device) int {
	t.Helper()
	l, e := blocks.Split(d.Runs(), d.Config().Pages)
	if e != api.OK {
		t.Fatalf("T3: the runs are not in their form: %v", d.Runs())
	}
	return len(l)
}

// worst tells which of some rolled commands, from a sector on, would leave the most
// runs.
func worst(r *rig, s *script, from int) command {
	r.t.Helper()
	var best command
	most := -1
	for range 5 {
		lba := from + s.roll(r.config.Capacity-from)
		x := command{trim: s.roll(4) == 0, lba: lba, n: 1 + s.roll(min(3, r.config.Capacity-lba))}
		if s.roll(5) == 0 {
			x.n = 1 + s.roll(r.config.Capacity-lba)
		}
		d := open(r.t, r.config, r.one().Image())
		if x.trim {
			d.Trim(x.lba, x.n)
		} else {
			d.Write(x.lba, x.n, "x")
		}
		if n := parts(r.t, d); n > most {
			best, most = x, n
		}
	}
	return best
}

// brinkConfigs are Configs in which windows may have many runs.
func brinkConfigs() []api.Config {
	return []api.Config{
		tight(64, 32, 0, 32), tight(64, 16, 0, 16), tight(64, 16, 2, 16), tight(32, 8, 1, 8), tight(64, 12, 4, 12),
	}
}

// T3, T5: the commands are chosen that leave the most runs, so that there are nearly
// as many as may be: writes within long runs, trims, and failures.
func TestBrink(t *testing.T) {
	for i, c := range brinkConfigs() {
		t.Run(name(c), func(t *testing.T) {
			t.Parallel()
			r := newRig(t, c)
			s := newScript(c, 60+i, 2)
			most := 0
			for k := range 300 {
				if k > 200 && k%20 == 0 && r.one().Stat().Bad < c.Spare {
					r.fail(s.roll(6))
				}
				r.play(worst(r, s, 0))
				most = max(most, parts(t, r.one()))
				r.check()
			}
			if most < c.MaxRuns-c.Spare-1 {
				t.Errorf("the script is too tame: %d parts, %d may be", most, c.MaxRuns)
			}
		})
	}
}

// T5: a great write into what was trimmed, where there are as many runs elsewhere as
// may be: all its runs are more.
func TestBrinkAndGreatWrite(t *testing.T) {
	for i, c := range brinkConfigs() {
		t.Run(name(c), func(t *testing.T) {
			t.Parallel()
			r := newRig(t, c)
			s := newScript(c, 80+i, 2)
			for k := range 4 {
				n := c.Capacity * (k + 1) / 8
				r.trim(0, n)
				for j := 0; j < 250 && parts(t, r.one()) < c.MaxRuns-c.Spare-j/100; j++ {
					x := worst(r, s, n)
					if k%2 == 0 {
						x.n = 1
					}
					r.play(x)
				}
				r.check()
				r.write(0, n, s.data(n))
				r.check()
			}
		})
	}
}
