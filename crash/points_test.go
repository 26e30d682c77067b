package crash

import (
	"math"
	"slices"
	"strconv"
	"strings"
	"testing"

	"ferrule/api"
	"ferrule/dev"
	"ferrule/script"
)

var _ func(api.Config, []script.Command, script.Command, int, int) ([]int, bool, api.Errno) = Points
var _ func([]int) (int, bool) = Moment
var _ func(api.Config, []script.Command, script.Command, int) (int, api.Errno) = Steps

// P23.1: the four numbers, and what is called by them.
func TestNumbers(t *testing.T) {
	if Before != 1 || After != 2 || Same != 3 || Neither != 4 {
		t.Errorf("P23.1: %d %d %d %d", Before, After, Same, Neither)
	}
	for _, x := range []struct {
		before, after, content string
		want                   int
	}{
		{"a", "b", "a", Before}, {"a", "b", "b", After}, {"a", "b", "c", Neither}, {"a", "b", "", Neither},
		{"a", "a", "a", Same}, {"a", "a", "b", Neither}, {"a", "a", "", Neither}, {"a", "b", "ab", Neither}, {"ab", "a", "a", After},
	} {
		trial := trial{before: x.before, after: x.after}
		if got := trial.shown(x.content); got != x.want {
			t.Errorf("P23.1: %q, then %q, shown %q: %d, want %d", x.before, x.after, x.content, got, x.want)
		}
	}
}

// The examples of chapter 23.
func TestExamples(t *testing.T) {
	setup := []script.Command{script.Write{N: 2, Data: "ab"}}
	for _, c := range bothKinds(example) {
		points, ended, e := Points(c, setup, script.Write{N: 1, Data: "x"}, 0, 10000)
		k, ok := Moment(points)
		if !ended || e != api.OK || !ok || k < 1 || k >= len(points) {
			t.Fatalf("P23.1: %v, %v, %d; Moment %d, %v", points, ended, e, k, ok)
		}
		want := append(slices.Repeat([]int{Before}, k), slices.Repeat([]int{After}, len(points)-k)...)
		if !slices.Equal(points, want) {
			t.Errorf("P23.1: %v, Moment %d", points, k)
		}
		points, ended, e = Points(c, setup, script.Trim{Lba: 40, N: 1}, 0, 10000)
		if !ended || e != api.OK || len(points) < 2 || !slices.Equal(points, slices.Repeat([]int{Same}, len(points))) {
			t.Errorf("P23.1: a trim of what is not there: %v, %v, %d", points, ended, e)
		}
		points, ended, e = Points(c, setup, script.Read{N: 1}, 0, 10000)
		if !ended || e != api.OK || !slices.Equal(points, []int{Same}) {
			t.Errorf("P23.1: a Read: %v, %v, %d", points, ended, e)
		}
	}
}

// holds holds Points, Moment and Steps of a command against the plain reading, from 0
// on and as far as it goes, and tells the points.
func holds(t *testing.T, c api.Config, setup []script.Command, last script.Command) []int {
	t.Helper()
	points, ended, e := Points(c, setup, last, 0, 10000)
	want, _ := plainPoints(t, c, setup, last, 0, 10000)
	if !slices.Equal(points, want) || !ended || e != api.OK {
		t.Fatalf("P23.1: %v, %v, %d, want %v", points, ended, e, want)
	}
	k, ok := Moment(points)
	if wantK, _ := plainMoment(want); slices.Contains(points, Neither) || !ok || k != wantK {
		t.Fatalf("P23.3, T8: %v, Moment %d, %v", points, k, ok)
	}
	steps := plainSteps(t, c, setup, last)
	if n, e := Steps(c, setup, last, 10000); n != steps || e != api.OK || len(points) != steps+1 {
		t.Fatalf("P23.2, P23.3: Steps %d, %d, want %d; %d points", n, e, steps, len(points))
	}
	return points
}

// sets are what may stand ahead: nothing; some runs; as much as makes the next
// commands write snapshots and collect blocks, with commands that are passed over.
func sets(c api.Config) [][]script.Command {
	return [][]script.Command{
		nil,
		{},
		{script.Write{N: min(9, c.Capacity), Data: strings.Repeat("old", 60)}, script.Trim{Lba: 2, N: 1}, script.Write{Lba: 1, N: 1, Data: "new"}},
		idle(),
		newRoller(c, 5).setup(20),
		newRoller(c, 6).setup(50),
	}
}

// P23.1, P23.2, P23.3: several Configs, setups and commands, on runs and flat.
func TestEachStep(t *testing.T) {
	for _, c := range configs() {
		for i, setup := range sets(c) {
			for _, c := range bothKinds(c) {
				t.Run(name(c)+" "+strconv.Itoa(i), func(t *testing.T) {
					t.Parallel()
					for _, last := range []script.Command{
						script.Write{Lba: 1, N: 3, Data: "xyz"}, script.Write{Lba: 2, N: 1}, script.Write{N: min(c.Capacity, 12), Data: strings.Repeat("long", 200)},
						script.Trim{N: 5}, script.Trim{N: c.Capacity}, script.Trim{Lba: c.Capacity - 1, N: 1},
					} {
						holds(t, c, setup, last)
					}
				})
			}
		}
	}
}

// P23.1: what changes nothing, with steps and without them: Same at each step.
func TestSame(t *testing.T) {
	for i, setup := range sets(example) {
		for _, c := range bothKinds(example) {
			b := newBench(t, c)
			b.setUp(setup)
			stays, _ := b.array.Read(0, 3)
			for _, last := range []script.Command{
				script.Write{N: 3, Data: stays}, script.Write{N: 3, Data: strings.TrimRight(stays, "\x00")}, script.Write{N: 3, Data: stays + "behind"},
			} {
				points := holds(t, c, setup, last)
				if len(points) < 18 || points[0] != Same {
					t.Errorf("P23.1: setup %d: what stays: %v", i, points)
				}
			}
			refused := []script.Command{
				script.Write{Lba: -1, N: 1, Data: "x"}, script.Write{Lba: 48, N: 1, Data: "x"}, script.Write{N: 0, Data: "x"}, script.Write{N: 49, Data: "x"}, script.Write{Lba: 1, N: math.MaxInt, Data: "x"},
				script.Trim{Lba: -1, N: 1}, script.Trim{Lba: 48, N: 1}, script.Trim{}, script.Trim{N: -1}, script.Trim{N: 49}, script.Trim{Lba: math.MaxInt, N: 1}, script.Trim{Lba: math.MinInt, N: math.MinInt},
			}
			for _, last := range slices.Concat(refused, idle(), []script.Command{script.Read{N: 1}, script.Read{N: 99}, script.Mount{K: -1}}) {
				for _, from := range []int{0, math.MaxInt} {
					points, ended, e := Points(c, setup, last, from, 10)
					if !slices.Equal(points, []int{Same}) || !ended || e != api.OK {
						t.Errorf("P23.1: setup %d, %T%v from %d on: %v, %v, %d", i, last, last, from, points, ended, e)
					}
				}
				if n, e := Steps(c, setup, last, 1); n != 0 || e != api.OK {
					t.Errorf("P23.2: setup %d, %T%v: %d, %d", i, last, last, n, e)
				}
			}
		}
	}
}

// P23.1: from and most: at each of the steps, around the last one, and far behind it.
func TestFromAndMost(t *testing.T) {
	setup := newRoller(example, 3).setup(30)
	last := script.Write{Lba: 7, N: 2, Data: "last"}
	for _, c := range bothKinds(example) {
		all := holds(t, c, setup, last)
		steps := len(all) - 1
		for _, from := range []int{0, 1, 2, 17, steps / 2, steps - 2, steps - 1, steps} {
			for _, most := range []int{1, 2, 3, steps - from, steps - from + 1, steps - from + 2, steps, 10000} {
				if most < 1 {
					continue
				}
				points, ended, e := Points(c, setup, last, from, most)
				want := all[from:min(from+most, steps+1)]
				if !slices.Equal(points, want) || ended != (from+most > steps) || e != api.OK {
					t.Errorf("P23.1: from %d, at most %d of %d: %v, %v, %d, want %v", from, most, steps, points, ended, e, want)
				}
			}
		}
		for _, from := range []int{steps + 1, steps + 2, 10000, 10001, 1<<31 - 1, 1 << 31, 1 << 32, math.MaxInt - 1, math.MaxInt} {
			for _, most := range []int{1, 2, 10000} {
				if points, ended, e := Points(c, setup, last, from, most); !slices.Equal(points, []int{After}) || !ended || e != api.OK {
					t.Errorf("P23.1: from %d on, behind the end: %v, %v, %d", from, points, ended, e)
				}
			}
		}
	}
}

// busy is a command that makes the device do more than what it asks for.
type busy struct {
	setup []script.Command
	last  script.Command
	work  dev.Work
}

// scattered are commands by which each block of data keeps one sector's page, and
// then some that are rolled.
func scattered(c api.Config, rounds, more int) []script.Command {
	var l []script.Command
	hot := min(c.Pages-1, c.Capacity/4)
	for i := range rounds {
		l = append(l,
			script.Write{Lba: i % (c.Capacity - hot), N: 1, Data: "cold " + strconv.Itoa(i)},
			script.Write{Lba: c.Capacity - hot, N: hot, Data: "hot " + strconv.Itoa(i)})
	}
	return append(l, newRoller(c, 77).setup(more)...)
}

// findBusy plays commands, and tells the first of each kind that make the device do
// such work, and the first that makes it do several kinds.
func findBusy(t *testing.T, c api.Config, l []script.Command) map[string]busy {
	found := map[string]busy{}
	b := newBench(t, c)
	for i, x := range l {
		was := b.device.Work()
		b.setUp(l[i : i+1])
		if mount, ok := x.(script.Mount); ok && mount.K == -1 {
			continue // it sets the counts back
		}
		now := b.device.Work()
		w := dev.Work{Records: now.Records - was.Records, Snapshots: now.Snapshots - was.Snapshots, Collections: now.Collections - was.Collections, Rewrites: now.Rewrites - was.Rewrites}
		for kind, is := range map[string]bool{
			"collects": w.Collections > 0, "writes a window anew": w.Rewrites > 0, "begins an epoch": w.Snapshots > 0,
			"does several": w.Collections > 0 && w.Snapshots > 0 || w.Rewrites > 0 && w.Snapshots > 0 || w.Rewrites > 0 && w.Collections > 0,
		} {
			if _, ok := found[kind]; is && !ok {
				found[kind] = busy{l[:i], x, w}
			}
		}
	}
	return found
}

// P23.1, P23.3, T8: commands by which the device collects blocks, writes windows anew
// and begins epochs: all of that is one moment, too.
func TestBusyCommands(t *testing.T) {
	count := map[string]int{}
	for _, c := range []api.Config{example, configs()[1], fitted(40, 4, 0, 4), fitted(36, 5, 2, 5), fitted(32, 8, 1, 8)} {
		for kind, x := range findBusy(t, c, scattered(c, 2*c.Capacity, 60)) {
			count[kind]++
			for _, c := range bothKinds(c) {
				t.Run(name(c)+" "+kind, func(t *testing.T) {
					t.Parallel()
					points := holds(t, c, x.setup, x.last)
					if k, _ := Moment(points); points[0] != Same && (k < 1 || k == len(points)) {
						t.Errorf("P23.3: Moment %d of %d points", k, len(points))
					}
				})
			}
		}
	}
	for _, kind := range []string{"collects", "writes a window anew", "begins an epoch", "does several"} {
		if count[kind] < 2 {
			t.Errorf("the tests' own commands: %d of those by which the device %s", count[kind], kind)
		}
	}
}

// P23.1: the commands of a setup count: mounts, reads, changes and refused ones; Cut,
// Fail and mounts with a cut do not, wherever they stand.
func TestSetup(t *testing.T) {
	last := script.Write{Lba: 3, N: 2, Data: "last"}
	for seed := range 20 {
		c := configs()[seed%7]
		r := newRoller(c, 300+seed)
		var played, spread []script.Command
		for range 25 {
			for r.roll(2) == 0 {
				spread = append(spread, pick(&r.dice, idle()))
			}
			x := r.change()
			switch r.roll(6) {
			case 0:
				x = script.Mount{K: -1}
			case 1:
				x = r.wrong()
			}
			played, spread = append(played, x), append(spread, x)
		}
		spread = append(spread, script.Cut{}, script.Fail{}, script.Mount{K: 1})
		for _, c := range bothKinds(c) {
			steps := plainSteps(t, c, played, last)
			a, _ := plainPoints(t, c, played, last, steps-20, 30)
			for _, setup := range [][]script.Command{played, spread} {
				points, ended, e := Points(c, setup, last, steps-20, 30)
				if !slices.Equal(points, a) || !ended || e != api.OK {
					t.Errorf("P23.1: seed %d: %v, %v, %d, want %v", seed, points, ended, e, a)
				}
			}
		}
	}
}
