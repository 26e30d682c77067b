package play

import (
	"fmt"
	"math"
	"strings"

	"ferrule/api"
	"ferrule/dev"
	"ferrule/quote"
	"ferrule/script"
	"ferrule/size"
)

// dice roll numbers, the same ones for the same seed.
type dice struct{ state uint64 }

func (d *dice) roll(n int) int {
	d.state = d.state*6364136223846793005 + 1442695040888963407
	return int(d.state>>33) % n
}

func pick[T any](d *dice, l []T) T { return l[d.roll(len(l))] }

// far are numbers that are wrong somewhere, and those at the ends of int.
var far = []int{
	math.MinInt, math.MinInt + 1, -1 << 32, -1 << 31, -513, -2, -1, 0,
	512, 513, 1 << 16, 1<<31 - 1, 1 << 31, 1 << 32, 1<<32 + 1, 1 << 62, math.MaxInt - 1, math.MaxInt,
}

// example is the Config of chapter 18's examples.
var example = api.Config{Blocks: 40, Pages: 8, Capacity: 48, Spare: 2, MaxRuns: 48, Window: 8}

// fitted gives a Config the greatest capacity with which it may be, and then the
// least MaxRuns: so that there is as little room as can be.
func fitted(blocks, pages, spare, window int) api.Config {
	best := api.Config{}
	for n := window; n <= api.MaxCapacity; n++ {
		c := api.Config{Blocks: blocks, Pages: pages, Capacity: n, Spare: spare, MaxRuns: 1, Window: window}
		for c.MaxRuns < api.MaxRuns && !size.Good(c) {
			c.MaxRuns++
		}
		if size.Good(c) {
			best = c
		}
	}
	return best
}

// configs are Configs of several sizes, each with room for few runs.
func configs() []api.Config {
	return []api.Config{
		example,
		{Blocks: 36, Pages: 8, Capacity: 48, Spare: 2, MaxRuns: 46, Window: 8},
		fitted(40, 4, 0, 4), fitted(40, 4, 4, 4), fitted(32, 8, 1, 8), fitted(36, 5, 2, 5), fitted(64, 4, 0, 1),
	}
}

// great are Configs at the ends of the limits.
func great() []api.Config {
	return []api.Config{fitted(64, 32, 0, 32), fitted(64, 32, 4, 20), fitted(64, 16, 2, 9), fitted(64, 8, 4, 8)}
}

func name(c api.Config) string {
	return fmt.Sprintf("%d-%d-%d-%d-%d-%d-%v", c.Blocks, c.Pages, c.Capacity, c.Spare, c.MaxRuns, c.Window, c.Flat)
}

func flat(c api.Config) api.Config {
	c.Flat = true
	return c
}

// other is a command of a type that is none of chapter 20's.
type other struct{}

func (other) Text() string { panic("nobody asks for its line") }

// alike is one of them, too, though a Read is in it.
type alike struct{ script.Read }

// strangers are the commands that are none.
func strangers() []script.Command {
	var gone *script.Write
	return []script.Command{nil, other{}, &other{}, alike{script.Read{N: 1}}, &script.Read{N: 1}, &script.Mount{K: -1}, gone}
}

// roller rolls scripts.
type roller struct {
	dice
	config api.Config
	fails  int // how many failures may still be set
	cuts   int // of a hundred commands how many are cuts
	dark   bool
	mood   int
	at     int
}

func newRoller(c api.Config, seed, fails int) *roller {
	r := &roller{dice: dice{uint64(seed)}, config: c, fails: fails}
	r.cuts = pick(&r.dice, []int{0, 1, 4, 12})
	return r
}

func (r *roller) script(n int) []script.Command {
	var l []script.Command
	for range n {
		l = append(l, r.next())
	}
	return l
}

// next rolls a command.
func (r *roller) next() script.Command {
	if r.roll(40) == 0 {
		r.mood, r.at = r.roll(4), r.roll(r.config.Capacity)
	}
	if r.dark && r.roll(3) == 0 {
		return r.mount()
	}
	if r.roll(100) < r.cuts {
		r.dark = true
		return script.Cut{K: r.steps()}
	}
	k := r.roll(100)
	switch {
	case k < 5:
		return pick(&r.dice, []script.Command{script.Show{}, script.Stat{}})
	case k < 7 && r.fails > 0:
		r.fails--
		return script.Fail{K: r.roll(30)}
	case k < 10:
		return r.mount()
	case k < 14:
		return r.wrong()
	case k < 15:
		return pick(&r.dice, strangers())
	case k < 30:
		lba := r.roll(r.config.Capacity)
		return script.Read{Lba: lba, N: 1 + r.roll(r.config.Capacity-lba)}
	}
	return r.change()
}

// steps rolls how far a cut is.
func (r *roller) steps() int {
	switch r.roll(8) {
	case 0:
		return r.roll(3)
	case 1:
		return r.roll(3000)
	case 2:
		return pick(&r.dice, far)
	}
	return r.roll(17 * 12)
}

// mount rolls one, often with a cut.
func (r *roller) mount() script.Command {
	if r.roll(4) == 0 {
		r.dark = true
		return script.Mount{K: r.steps()}
	}
	r.dark = false
	return script.Mount{K: -1 - r.roll(2)}
}

// change rolls a write or a trim, within a right range.
func (r *roller) change() script.Command {
	r.at++
	capacity := r.config.Capacity
	lba := r.roll(capacity)
	n := 1 + r.roll(min(12, capacity-lba))
	switch r.mood {
	case 0:
		lba, n = r.at*2%(capacity|1)%capacity, 1 // every second sector
	case 1:
		lba, n = r.at*7%capacity, 1 // far from one another
	case 2:
		lba = lba * r.roll(2)
		n = capacity - lba
	}
	if r.roll(7) == 0 {
		return script.Trim{Lba: lba, N: n}
	}
	return script.Write{Lba: lba, N: n, Data: r.data(n)}
}

// data rolls a write's bytes: none, fewer than its range has, as many, or more.
func (r *roller) data(n int) string {
	count := n * 32
	switch r.roll(6) {
	case 0:
		return ""
	case 1:
		count = r.roll(n * 32)
	case 2:
		count += 1 + r.roll(99)
	}
	b := make([]byte, count)
	for i := range b {
		b[i] = "\x00\x00\x00\x01aZ\"\\\n\x7f\x80\xc3\xa9\xfe\xff"[r.roll(15)]
	}
	return string(b)
}

// wrong rolls a command with a number that is wrong, or as far as can be.
func (r *roller) wrong() script.Command {
	lba, n := r.roll(r.config.Capacity), 1+r.roll(4)
	switch r.roll(4) {
	case 0:
		lba = pick(&r.dice, far)
	case 1:
		n = pick(&r.dice, far)
	case 2:
		n = r.config.Capacity - lba + 1
	case 3:
		n = 0
	}
	return pick(&r.dice, []script.Command{script.Read{Lba: lba, N: n}, script.Write{Lba: lba, N: n, Data: "wrong"}, script.Trim{Lba: lba, N: n}})
}

// plainLine plays a command on a device by its own calls, and tells the answer by the
// chapter's words.
func plainLine(d *dev.Device, c script.Command) string {
	told := func(e api.Errno) string {
		if e == 0 {
			return "ok"
		}
		return fmt.Sprintf("error %d", int(e))
	}
	switch c := c.(type) {
	case script.Read:
		s, e := d.Read(c.Lba, c.N)
		for strings.HasSuffix(s, "\x00") {
			s = s[:len(s)-1]
		}
		if e == 0 {
			return "ok " + quote.Quote(s)
		}
		return told(e)
	case script.Write:
		return told(d.Write(c.Lba, c.N, c.Data))
	case script.Trim:
		return told(d.Trim(c.Lba, c.N))
	case script.Mount:
		return told(d.Mount(c.K))
	case script.Cut:
		d.Cut(c.K)
		return "ok"
	case script.Fail:
		d.Fail(c.K)
		return "ok"
	case script.Show:
		line := "show"
		for _, r := range d.Runs() {
			line += fmt.Sprintf(" %d+%d", r.Lba, r.Len)
		}
		if d.Power() {
			return line
		}
		return "off"
	case script.Stat:
		if d.Power() {
			return fmt.Sprintf("stat %d %d", d.Stat().Bad, d.Map().Count())
		}
		return "off"
	}
	return "none"
}

// tell tells commands, strangers too.
func tell(l []script.Command) string {
	var b strings.Builder
	for _, c := range l {
		fmt.Fprintf(&b, "%.90s; ", fmt.Sprintf("%T%v", c, c))
	}
	return b.String()
}
