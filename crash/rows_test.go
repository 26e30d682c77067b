package crash

import (
	"fmt"
	"math"
	"strings"

	"ferrule/api"
	"ferrule/script"
	"ferrule/size"
)

// dice roll numbers, the same ones for the same seed.
type dice struct{ state uint64 }

func (d *dice) roll(n int) int {
	d.state = d.state*6364136223846793005 + 1442695040888963407
	return int(d.state>>33) % n
}

func pick[T any](d *dice, l []T) T { return l[d.roll(len(l))] }

// far are numbers that are wrong somewhere, and those at the ends of int.
var far = []int{
	math.MinInt, math.MinInt + 1, -1 << 32, -1 << 31, -513, -1,
	513, 1 << 16, 1<<31 - 1, 1 << 31, 1 << 32, 1<<32 + 1, 1 << 62, math.MaxInt - 1, math.MaxInt,
}

// example is the Config of chapter 18's examples.
var example = api.Config{Blocks: 40, Pages: 8, Capacity: 48, Spare: 2, MaxRuns: 48, Window: 8}

// fitted gives a Config the greatest capacity with which it may be, and then the
// least MaxRuns: so that there is as little room as can be.
func fitted(blocks, pages, spare, window int) api.Config {
	best := api.Config{}
	for n := window; n <= api.MaxCapacity; n++ {
		c := api.Config{Blocks: blocks, Pages: pages, Capacity: n, Spare: spare, MaxRuns: 1, Window: window}
		for c.MaxRuns < api.MaxRuns && !size.Good(c) {
			c.MaxRuns++
		}
		if size.Good(c) {
			best = c
		}
	}
	return best
}

// configs are Configs of several sizes, each with room for few runs.
func configs() []api.Config {
	return []api.Config{
		example,
		{Blocks: 36, Pages: 8, Capacity: 48, Spare: 2, MaxRuns: 46, Window: 8},
		fitted(40, 4, 0, 4), fitted(40, 4, 4, 4), fitted(32, 8, 1, 8), fitted(36, 5, 2, 5), fitted(64, 4, 0, 1),
	}
}

func name(c api.Config) string {
	return fmt.Sprintf("%d-%d-%d-%d-%d-%d-%v", c.Blocks, c.Pages, c.Capacity, c.Spare, c.MaxRuns, c.Window, c.Flat)
}

func flat(c api.Config) api.Config {
	c.Flat = true
	return c
}

// bothKinds are a Config on runs and flat.
func bothKinds(c api.Config) []api.Config { return []api.Config{c, flat(c)} }

// other is a command of a type that is none of chapter 20's.
type other struct{}

func (other) Text() string { panic("nobody asks for its line") }

// alike is one of them, too, though a Write is in it.
type alike struct{ script.Write }

// strangers are the commands that are none.
func strangers() []script.Command {
	var gone *script.Write
	return []script.Command{nil, other{}, &other{}, alike{script.Write{N: 1, Data: "z"}}, &script.Write{N: 1, Data: "z"}, &script.Trim{N: 1}, &script.Mount{K: -1}, gone}
}

// idle are commands that change no sector of a device: a setup passes over all of
// them, and as the last one they do nothing.
func idle() []script.Command {
	return append(strangers(),
		script.Cut{}, script.Cut{K: 5}, script.Cut{K: -1}, script.Fail{}, script.Fail{K: 1}, script.Fail{K: -1}, script.Show{}, script.Stat{},
		script.Mount{}, script.Mount{K: 3}, script.Mount{K: 999}, script.Mount{K: -2}, script.Mount{K: math.MinInt}, script.Mount{K: math.MaxInt})
}

// roller rolls commands that may stand ahead of the last one.
type roller struct {
	dice
	config api.Config
	every  int // from where to where changes go on; none, if it is 0
	at     int
}

func newRoller(c api.Config, seed int) *roller {
	return &roller{dice: dice{uint64(seed)}, config: c}
}

// setup rolls so many commands, some of which are passed over, or refused.
func (r *roller) setup(n int) []script.Command {
	var l []script.Command
	for range n {
		switch k := r.roll(20); {
		case k == 0:
			l = append(l, pick(&r.dice, idle()))
		case k == 1:
			l = append(l, script.Mount{K: -1})
		case k == 2:
			l = append(l, r.wrong())
		case k == 3:
			l = append(l, script.Read{Lba: r.roll(r.config.Capacity), N: 1 + r.roll(3)})
		default:
			l = append(l, r.change())
		}
	}
	return l
}

// change rolls a write or a trim, within a right range.
func (r *roller) change() script.Command {
	if r.roll(30) == 0 {
		r.every = r.roll(9)
	}
	capacity := r.config.Capacity
	lba := r.roll(capacity)
	n := 1 + r.roll(min(12, capacity-lba))
	if r.every > 0 {
		r.at += r.every
		lba, n = r.at%capacity, 1
	}
	if r.roll(7) == 0 {
		return script.Trim{Lba: lba, N: n}
	}
	return script.Write{Lba: lba, N: n, Data: r.data(n)}
}

// data rolls a write's bytes: none, fewer than its range has, as many, or more.
func (r *roller) data(n int) string {
	count := n * 32
	switch r.roll(6) {
	case 0:
		return ""
	case 1:
		count = r.roll(n * 32)
	case 2:
		count += 1 + r.roll(99)
	}
	var b strings.Builder
	for range count {
		b.WriteByte("\x00\x00\x00\x01aZ\"\\\n\x7f\x80\xc3\xa9\xfe\xff"[r.roll(15)])
	}
	return b.String()
}

// wrong rolls a change with a number that is wrong.
func (r *roller) wrong() script.Command {
	lba, n := r.roll(r.config.Capacity), 1+r.roll(4)
	switch r.roll(4) {
	case 0:
		lba = pick(&r.dice, far)
	case 1:
		n = pick(&r.dice, far)
	case 2:
		n = r.config.Capacity - lba + 1
	case 3:
		n = 0
	}
	if r.roll(2) == 0 {
		return script.Trim{Lba: lba, N: n}
	}
	return script.Write{Lba: lba, N: n, Data: "wrong"}
}
