package play

import (
	"slices"
	"strconv"
	"strings"
	"testing"

	"ferrule/api"
	"ferrule/script"
)

// count tells how many of Play's lines are this one.
func count(t *testing.T, c api.Config, l []script.Command, line string) int {
	t.Helper()
	lines, e := Play(c, l)
	if e != api.OK {
		t.Fatalf("P21.1: Play(%v): %d", c, e)
	}
	n := 0
	for _, x := range lines {
		if x == line {
			n++
		}
	}
	return n
}

// P21.2, P21.3, P21.4, T1, T2: rolled scripts, with cuts and at most as many failures
// as may be, and with more, on several Configs and both kinds of device.
func TestRolledScripts(t *testing.T) {
	for i, c := range append(configs(), great()...) {
		t.Run(name(c), func(t *testing.T) {
			t.Parallel()
			for seed := range 8 {
				fails := c.Spare
				if seed%4 == 3 {
					fails = c.Spare + 4
				}
				l := newRoller(c, 1000+seed*100+i, fails).script(300)
				holds(t, c, l)
				holds(t, flat(c), l)
			}
		})
	}
}

// setups are what stands on a device ahead of the command that is cut: nothing; some
// runs; as much as makes the next commands write snapshots and collect blocks.
func setups(c api.Config) [][]script.Command {
	r := newRoller(c, 11, 0)
	r.cuts = 0
	some := []script.Command{
		script.Write{N: min(9, c.Capacity), Data: strings.Repeat("old", 60)}, script.Trim{Lba: 2, N: 1}, script.Write{Lba: 1, N: 1, Data: "new"},
	}
	var long []script.Command
	for range 90 {
		long = append(long, r.change())
	}
	return [][]script.Command{nil, some, long}
}

// P21.2, T1: a cut ahead of each kind of command, at each number of steps: what comes
// behind it is the array before or after, also when mounts are cut again and again.
func TestEachCut(t *testing.T) {
	for _, c := range []api.Config{example, flat(example), fitted(40, 4, 0, 4)} {
		for i, setup := range setups(c) {
			t.Run(name(c)+" "+strconv.Itoa(i), func(t *testing.T) {
				t.Parallel()
				for _, x := range []script.Command{
					script.Write{Lba: 1, N: 3, Data: "xyz"}, script.Write{N: c.Capacity, Data: ""}, script.Trim{Lba: 0, N: 5}, script.Trim{Lba: 1, N: 1},
					script.Mount{K: -1}, script.Mount{K: 3}, script.Read{N: c.Capacity}, script.Read{Lba: -1, N: 1}, script.Show{}, script.Stat{}, script.Cut{K: 4}, script.Fail{K: 0}, nil, other{},
				} {
					eachCut(t, c, setup, x)
				}
			})
		}
	}
}

// eachCut cuts a command after 0 steps, after one, and so on (of a long one not at each
// step), till it ends.
func eachCut(t *testing.T, c api.Config, setup []script.Command, x script.Command) {
	t.Helper()
	for k := 0; ; k++ {
		if k > 60 {
			k += 12
		}
		l := append(slices.Clone(setup), script.Cut{K: k}, x)
		l = append(l, behindCut(c)...)
		if r, ok, e := Judge(c, l); !ok || r != (Report{}) || e != api.OK {
			t.Fatalf("P21.4: %s: %T%v cut after %d steps: %v, %v, %d", name(c), x, x, k, r, ok, e)
		}
		lines, _ := Play(c, l)
		wasCut := lines[len(setup)+1] == "error 7"
		switch x.(type) {
		case script.Write, script.Trim:
			if k == 0 && !wasCut {
				t.Errorf("P21.1: %s: %T%v is not cut", name(c), x, x)
			}
		default:
			if wasCut {
				t.Errorf("P21.1: %s: %T%v is cut", name(c), x, x)
			}
		}
		if !wasCut {
			return
		}
	}
}

// behindCut are commands with the power off, mounts that are cut, and such without.
func behindCut(c api.Config) []script.Command {
	l := []script.Command{script.Write{Lba: 4, N: 1, Data: "four"}, script.Show{}, script.Stat{}, script.Read{N: c.Capacity}}
	for m := range 3 {
		l = append(l, script.Mount{K: m * 5}, script.Trim{Lba: 3, N: 1}, script.Read{N: c.Capacity})
	}
	return append(l, script.Mount{K: -1}, script.Read{N: c.Capacity}, script.Write{Lba: 2, N: 1, Data: "two"}, script.Mount{K: -1}, script.Read{N: 3})
}

// P21.2, P21.3: a command that is cut, and the next one, and the one behind it; each
// of the mounts between with a cut of its own.
func TestCutAgain(t *testing.T) {
	for i, c := range configs() {
		d := &dice{uint64(i)}
		r := newRoller(c, 60+i, 0)
		var l []script.Command
		for range 120 {
			l = append(l, script.Cut{K: d.roll(120)}, r.change())
			for range d.roll(4) {
				l = append(l, script.Mount{K: d.roll(60)}, r.change(), script.Read{N: c.Capacity})
			}
			l = append(l, script.Mount{K: -1}, script.Read{N: c.Capacity})
		}
		l = l[:min(len(l), api.MaxLines)]
		holds(t, c, l)
		holds(t, flat(c), l)
		if n := count(t, c, l, "error 7"); n < 60 {
			t.Errorf("the test's script has only %d commands that were cut", n)
		}
	}
}

// P21.2, T1: failures up to Spare, one behind the other, with cuts between.
func TestFailures(t *testing.T) {
	for i, c := range append(configs(), great()...) {
		for place := range 6 {
			r := newRoller(c, 80+i, 0)
			var l []script.Command
			for k := range c.Spare {
				l = append(l, script.Fail{K: place})
				for range 12 {
					l = append(l, r.change(), script.Read{N: c.Capacity})
				}
				l = append(l, script.Cut{K: place * k * 11}, r.change(), script.Stat{}, script.Mount{K: -1}, script.Stat{}, script.Read{N: c.Capacity})
			}
			holds(t, c, l)
			lines, _ := Play(c, append(l, script.Stat{}))
			if bad, _, _ := strings.Cut(strings.TrimPrefix(lines[len(l)], "stat "), " "); bad != string(rune('0'+c.Spare)) {
				t.Errorf("the test's script makes %s blocks bad", bad)
			}
		}
	}
}

// P21.2: beyond Spare failures nothing more is held against anything, whatever comes.
func TestMoreFailures(t *testing.T) {
	dead := 0
	for i, c := range append(configs(), great()...) {
		for seed := range 4 {
			r := newRoller(c, 90+10*i+seed, 0)
			var l []script.Command
			for range c.Spare + 5 {
				l = append(l, script.Fail{K: r.roll(8)})
				for range 10 {
					l = append(l, r.next())
				}
				l = append(l, script.Mount{K: r.roll(40) - 20}, script.Read{N: c.Capacity}, script.Show{}, script.Stat{})
			}
			holds(t, c, l)
			holds(t, flat(c), l)
			dead += count(t, c, l, "error 13")
		}
	}
	if dead < 40 {
		t.Errorf("the test's scripts have only %d commands with error 13", dead)
	}
}

// P21.2: reads and writes out of range, with the power on and off, and texts longer
// than their range.
func TestOutOfRange(t *testing.T) {
	for _, c := range []api.Config{example, flat(fitted(40, 4, 4, 4))} {
		long := strings.Repeat("long", 3000)
		ends := append([]int{1, 2, c.Capacity - 1, c.Capacity, c.Capacity + 1}, far...)
		for _, lba := range ends {
			var l []script.Command
			for _, n := range ends {
				l = append(l,
					script.Write{Lba: lba, N: n, Data: long}, script.Read{Lba: lba, N: n}, script.Trim{Lba: lba, N: n}, script.Read{N: c.Capacity},
					script.Cut{K: n}, script.Write{Lba: lba, N: n, Data: long[:99]}, script.Read{Lba: n, N: lba}, script.Mount{K: -1}, script.Read{N: c.Capacity},
				)
			}
			holds(t, c, l)
		}
	}
}
