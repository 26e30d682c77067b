package dev_test

import (
	"testing"

	"ferrule/api"
)

// command is a write or a trim.
type command struct {
	trim   bool
	lba, n int
	data   string
}

// The moods of a script: each one is hard on another part of the device.
const (
	anyhow   = iota // writes and trims of all kinds
	cold            // blocks keep few valid pages each: they must be collected
	ragged          // each other sector: runs become many
	sweeping        // writes of many sectors
	moods
)

// script rolls commands, mood by mood.
type script struct {
	*dice
	config api.Config
	most   int // sectors of a command, where the mood does not say it
	mood   int
	left   int // commands till the mood changes
	at     int // the mood's place
	keep   int // how many pages of a block a cold mood keeps
	step   int // and how far from one another their sectors are
}

func newScript(c api.Config, seed, most int) *script {
	return &script{dice: &dice{uint64(seed)}, config: c, most: most}
}

// next tells the next command.
func (s *script) next() command {
	if s.left == 0 {
		s.change(s.roll(moods))
	}
	s.left--
	s.at++
	lba, n, trim := s.place()
	c := command{trim: trim, lba: lba, n: n}
	if !trim {
		c.data = s.data(n)
	}
	return c
}

// change begins a mood.
func (s *script) change(mood int) {
	s.mood, s.at = mood, s.roll(s.config.Capacity)
	s.keep, s.step = 1+s.roll(s.config.Pages/2), []int{1, 5, 7, 11, 13}[s.roll(5)]
	if s.config.Capacity%s.step == 0 {
		s.step = 1 // else it would not come to all sectors
	}
	s.left = 1 + s.roll(2*s.config.Capacity)
	if mood == cold {
		// Nothing must be collected till each block that may be has some pages.
		s.left = (s.config.Capacity/s.keep + 3) * s.config.Pages
	}
}

// place tells where the next command is, and whether it is a trim.
func (s *script) place() (lba, n int, trim bool) {
	capacity := s.config.Capacity
	switch s.mood {
	case cold:
		// A few sectors that stay, far from one another or side by side, and then
		// one that is written again and again.
		if k := s.at % s.config.Pages; k < s.keep {
			return (s.at/s.config.Pages*s.keep + k) * s.step % capacity, 1, false
		}
		return capacity - 1, 1, false
	case ragged:
		return s.at * 2 % (capacity | 1) % capacity, 1, s.roll(9) == 0
	case sweeping:
		lba = s.roll(capacity) * s.roll(2)
		return lba, capacity - lba - s.roll(min(3, capacity-lba)), s.roll(9) == 0
	}
	lba = s.roll(capacity)
	return lba, 1 + s.roll(min(s.most, capacity-lba)), s.roll(6) == 0
}

// play does a command.
func (r *rig) play(c command) api.Errno {
	r.t.Helper()
	if c.trim {
		return r.trim(c.lba, c.n)
	}
	return r.write(c.lba, c.n, c.data)
}

// rolled plays a script, with cuts, failures, mounts and wrong ranges between.
func (r *rig) rolled(s *script, steps int) {
	r.t.Helper()
	fails := r.one().Stat().Bad
	for range steps {
		switch k := s.roll(60); {
		case !r.one().Power():
			r.dark(s.dice)
		case k == 0:
			r.cut(s.roll(500))
		case k == 1 && fails < r.config.Spare:
			fails++
			r.fail(s.roll(40))
		case k == 2:
			r.mount(-1)
		case k == 3:
			r.reopen()
		case k < 6:
			r.refused(s.dice)
		case k < 8:
			lba := s.roll(r.config.Capacity)
			r.read(lba, 1+s.roll(r.config.Capacity-lba))
		default:
			r.play(s.next())
		}
		r.check()
	}
	r.mount(-1)
	r.check()
}

// dark does what can be done with the power off: a mount, which may be cut.
func (r *rig) dark(d *dice) {
	r.t.Helper()
	if d.roll(4) == 0 {
		r.refused(d)
		r.read(0, 1)
		r.write(0, 1, "dark")
		r.trim(0, 1)
	}
	k := -1
	if d.roll(3) == 0 {
		k = d.roll(200)
	}
	r.mount(k)
}

// refused hands in a range that is not right.
func (r *rig) refused(d *dice) {
	r.t.Helper()
	lba, n := d.roll(r.config.Capacity), 1+d.roll(4)
	switch d.roll(4) {
	case 0:
		lba = numbers[d.roll(len(numbers))]
	case 1:
		n = numbers[d.roll(len(numbers))]
	case 2:
		n = r.config.Capacity - lba + 1
	case 3:
		n = 0
	}
	r.read(lba, n)
	r.write(lba, n, "refused")
	r.trim(lba, n)
}

// P18.2 to P18.7, T1 to T7, T9: rolled scripts, many seeds, several Configs.
func TestScripts(t *testing.T) {
	for i, c := range append(small(), great()...) {
		t.Run(name(c), func(t *testing.T) {
			t.Parallel()
			seeds, steps := 3, 300
			if c.Blocks*c.Pages > 500 {
				seeds, steps = 1, 150
			}
			for seed := range seeds {
				for _, most := range []int{1, 3, 12} {
					newRig(t, c).rolled(newScript(c, seed*1000+i*10+most, most), steps)
				}
			}
		})
	}
}
