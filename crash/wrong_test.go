package crash

import (
	"math"
	"slices"
	"strconv"
	"strings"
	"testing"

	"ferrule/api"
	"ferrule/script"
)

// wrongConfigs are Configs that may not be, each by one number.
func wrongConfigs() []api.Config {
	l := slices.Repeat([]api.Config{example}, 8)
	l[0].Blocks = 65
	l[1].Pages = 3
	l[2].Capacity = 49
	l[3].Spare = 5
	l[4].MaxRuns = 45
	l[5].Window = 9
	l[6] = api.Config{}
	l[7].Capacity = math.MaxInt
	return l
}

// P23.1, P23.2, R2: EARG of each kind, by itself and together.
func TestRefused(t *testing.T) {
	last := script.Write{N: 1, Data: "x"}
	setups := []struct {
		l     []script.Command
		wrong bool
	}{{nil, false}, {make([]script.Command, 1000), false}, {make([]script.Command, 1001), true}, {slices.Repeat([]script.Command{script.Trim{N: 1}}, 1001), true}, {make([]script.Command, 5000), true}}
	for i, c := range append([]api.Config{example}, wrongConfigs()...) {
		for _, setup := range setups {
			for _, most := range []int{1, 2, 0, -1, 10001, math.MinInt, math.MaxInt, 1 << 32, 1<<32 + 1} {
				wrong := i > 0 || setup.wrong || most < 1 || most > 10000
				for _, from := range []int{0, 1, -1, -2, math.MinInt, -1 << 32} {
					points, ended, e := Points(c, setup.l, last, from, most)
					if (wrong || from < 0) && (points != nil || ended || e != api.EARG) || !wrong && from >= 0 && (len(points) != most || ended || e != api.OK) {
						t.Errorf("P23.1: Points(%v, %d commands, from %d, most %d): %v, %v, %d", c, len(setup.l), from, most, points, ended, e)
					}
				}
				n, e := Steps(c, setup.l, last, most)
				if want := map[bool]api.Errno{true: api.EARG, false: api.ELIMIT}[wrong]; n != 0 || e != want {
					t.Errorf("P23.2: Steps(%v, %d commands, most %d): %d, %d, want %d", c, len(setup.l), most, n, e, want)
				}
			}
		}
	}
}

// P23.1: just as many commands as may be are played, to the last one.
func TestMostLines(t *testing.T) {
	setup := make([]script.Command, 0, api.MaxLines+5)
	for i := range api.MaxLines {
		setup = append(setup, script.Write{Lba: i % 7, N: 1, Data: strconv.Itoa(i)})
	}
	// The last one of them makes what is written then no change.
	last := script.Write{Lba: (api.MaxLines - 1) % 7, N: 1, Data: "999"}
	points, ended, e := Points(example, setup, last, 0, 3)
	if !slices.Equal(points, []int{Same, Same, Same}) || ended || e != api.OK {
		t.Errorf("P23.1: %v, %v, %d", points, ended, e)
	}
	setup[999] = script.Trim{Lba: 30, N: 1}
	if points, ended, e := Points(example, setup, last, 0, 3); !slices.Equal(points, []int{Before, Before, Before}) || ended || e != api.OK {
		t.Errorf("P23.1: %v, %v, %d", points, ended, e)
	}
}

// P23.2: ELIMIT with most just too small, none with it just enough or more.
func TestStepsLimit(t *testing.T) {
	for seed := range 30 {
		c := configs()[seed%7]
		c.Flat = seed%2 == 0
		r := newRoller(c, 900+seed)
		setup, last := r.setup(30), r.change()
		want := plainSteps(t, c, setup, last)
		if want < 17 {
			t.Fatalf("the tests' own command: %d steps", want)
		}
		for _, most := range []int{1, want / 2, want - 1} {
			if n, e := Steps(c, setup, last, most); n != 0 || e != api.ELIMIT {
				t.Errorf("P23.2: seed %d: most %d of %d: %d, %d", seed, most, want, n, e)
			}
		}
		for _, most := range []int{want, want + 1, 2 * want, 10000} {
			if n, e := Steps(c, setup, last, most); n != want || e != api.OK {
				t.Errorf("P23.2: seed %d: most %d of %d: %d, %d", seed, most, want, n, e)
			}
		}
	}
}

// P23.2: a command that has more steps than most can ever be.
func TestTooManySteps(t *testing.T) {
	c := fitted(64, 32, 0, 32)
	last := script.Write{N: c.Capacity, Data: strings.Repeat("x", 32*c.Capacity)}
	steps := plainSteps(t, c, nil, last)
	n, e := Steps(c, nil, last, 10000)
	if steps <= 10000 && (n != steps || e != api.OK) || steps > 10000 && (n != 0 || e != api.ELIMIT) {
		t.Errorf("P23.2: %d steps: %d, %d", steps, n, e)
	}
	t.Logf("%d steps", steps)
	points, ended, e := Points(c, nil, last, steps-1, 5)
	if !slices.Equal(points, []int{After, After}) && !slices.Equal(points, []int{Before, After}) || !ended || e != api.OK {
		t.Errorf("P23.1: %v, %v, %d", points, ended, e)
	}
}

// R4, R5: the list that is handed in stays as it was, spare room included; what is
// answered is new memory; what is asked twice is answered twice alike.
func TestNothingIsKept(t *testing.T) {
	setup := append(make([]script.Command, 0, 40), newRoller(example, 8).setup(20)...)
	full := setup[:40]
	for i := 20; i < 40; i++ {
		full[i] = script.Cut{K: i}
	}
	was := slices.Clone(full)
	last := script.Write{Lba: 1, N: 1, Data: "x"}
	first, _, _ := Points(example, setup, last, 0, 30)
	again := slices.Clone(first)
	clear(first[:cap(first)])
	second, _, _ := Points(example, setup, last, 0, 30)
	third, _, _ := Points(example, setup, last, 0, 30)
	clear(second[:cap(second)])
	if !slices.Equal(third, again) {
		t.Errorf("R4, R5: %v, then %v", again, third)
	}
	Steps(example, setup, last, 100)
	if !slices.Equal(full, was) {
		t.Errorf("R4: the setup has changed")
	}
	Moment(third)
	if !slices.Equal(third, again) {
		t.Errorf("R4: the points have changed")
	}
}
