package shell_test

import (
	"strings"

	"ferrule/api"
	"ferrule/script"
	"ferrule/size"
)

// dice roll numbers, the same ones for the same seed.
type dice struct{ state uint64 }

func (d *dice) roll(n int) int {
	d.state = d.state*6364136223846793005 + 1442695040888963407
	return int(d.state>>33) % n
}

func (d *dice) one(n int) bool { return d.roll(n) == 0 }

func pick[T any](d *dice, l []T) T { return l[d.roll(len(l))] }

// fitted gives a Config the greatest capacity with which it may be, and then the
// least MaxRuns: so that there is as little room as can be.
func fitted(blocks, pages, spare, window int) api.Config {
	best := api.Config{}
	for n := window; n <= api.MaxCapacity; n++ {
		c := api.Config{Blocks: blocks, Pages: pages, Capacity: n, Spare: spare, MaxRuns: 1, Window: window}
		for c.MaxRuns < api.MaxRuns && !size.Good(c) {
			c.MaxRuns++
		}
		if size.Good(c) {
			best = c
		}
	}
	return best
}

// configs are Configs of several sizes, each with room for few runs.
func configs() []api.Config {
	return []api.Config{
		example,
		{Blocks: 36, Pages: 8, Capacity: 48, Spare: 2, MaxRuns: 46, Window: 8},
		fitted(40, 4, 0, 4), fitted(40, 4, 4, 4), fitted(32, 8, 1, 8), fitted(36, 5, 2, 5), fitted(64, 4, 0, 1),
		fitted(64, 32, 4, 20), fitted(64, 16, 2, 9),
	}
}

// roller rolls scripts.
type roller struct {
	dice
	config api.Config
	cuts   int // of a hundred commands how many are cuts
	dark   bool
	every  int // from where to where changes go on
	at     int
}

func newRoller(c api.Config, seed int) *roller {
	return &roller{dice: dice{uint64(seed)}, config: c, cuts: []int{0, 3, 12}[seed%3]}
}

// script rolls so many commands, fewer if their text would be longer than most bytes.
func (r *roller) script(n, most int) []script.Command {
	var l []script.Command
	long := 0
	for range n {
		c := r.next()
		if long += len(c.Text()) + 1; long > most {
			break
		}
		l = append(l, c)
	}
	return l
}

// next rolls a command.
func (r *roller) next() script.Command {
	if r.dark && r.one(5) || r.one(30) {
		r.dark = r.one(4)
		if r.dark {
			return script.Mount{K: r.roll(60)}
		}
		return script.Mount{K: -1 - r.roll(2)}
	}
	if r.roll(100) < r.cuts {
		r.dark = true
		return script.Cut{K: pick(&r.dice, []int{r.roll(3), r.roll(200), r.roll(200), r.roll(3000), -r.roll(9)})}
	}
	switch k := r.roll(100); {
	case k < 8 || r.dark && k >= 80:
		return pick(&r.dice, []script.Command{script.Show{}, script.Stat{}})
	case k < 10:
		return script.Fail{K: r.roll(30)}
	case k < 14:
		return r.wrong()
	case k < 35:
		lba := r.roll(r.config.Capacity)
		return script.Read{Lba: lba, N: 1 + r.roll(r.config.Capacity-lba)}
	}
	return r.change()
}

// change rolls a write or a trim, within a right range.
func (r *roller) change() script.Command {
	if r.one(30) {
		r.every = r.roll(9)
	}
	capacity := r.config.Capacity
	lba := r.roll(capacity)
	n := 1 + r.roll(min(12, capacity-lba))
	if r.every > 0 {
		r.at += r.every
		lba, n = r.at%capacity, 1
	}
	if r.one(7) {
		return script.Trim{Lba: lba, N: n}
	}
	return script.Write{Lba: lba, N: n, Data: r.data()}
}

// data rolls bytes of all kinds, those that stand for something else in a text among
// them.
func (r *roller) data() string {
	s := ""
	for range r.roll(9) {
		s += pick(&r.dice, []string{"a", "b c", "\x00", "\x00\x00", "\n", "\t", "\"", "\\", "#", " # ", "\r", "\x7f", "\x80", "\xc3", "\xff", "\u00e9", "\u2028", "\U0001f600", "flat", "device 1"})
	}
	if r.one(8) {
		s = strings.Repeat(s, r.roll(9))
	}
	return s
}

// wrong rolls a command with a number that is wrong, or as far as nine digits go.
func (r *roller) wrong() script.Command {
	far := []int{-999999999, -512, -1, 0, r.config.Capacity, r.config.Capacity + 1, 512, 513, 999999999}
	lba, n := r.roll(r.config.Capacity), 1+r.roll(4)
	if r.one(2) {
		lba = pick(&r.dice, far)
	} else {
		n = pick(&r.dice, far)
	}
	return pick(&r.dice, []script.Command{script.Read{Lba: lba, N: n}, script.Write{Lba: lba, N: n, Data: "wrong"}, script.Trim{Lba: lba, N: n}})
}

// blanks rolls some, at least so many.
func (d *dice) blanks(least int) string {
	s := ""
	for range least + d.roll(3) {
		s += pick(d, []string{" ", "\t"})
	}
	return s
}

// nothing rolls lines that are passed over, each ended.
func (d *dice) nothing() string {
	s := ""
	for d.one(3) {
		s += d.blanks(0) + pick(d, []string{"", "", "#", "# device 1 2 3 4 5 6", "#write 0 1 \"x\"", "#\xff\r\x00 #"}) + "\n"
	}
	return s
}

// loosen puts blanks between a line's parts and at its ends. (Of a write's text the
// marks are the ends.)
func (d *dice) loosen(line string) string {
	head, text := line, ""
	if i := strings.IndexByte(line, '"'); i >= 0 {
		head, text = line[:i], line[i:]
	}
	s := d.blanks(0)
	for i, part := range strings.Fields(head) {
		if i > 0 {
			s += d.blanks(1)
		}
		s += part
	}
	if text != "" {
		s += d.blanks(1) + text
	}
	return s + d.blanks(0)
}

// spread puts blanks, remarks and empty lines at all places of a text. Where each of
// its lines then stands is told, too, counted from 1 on.
func (d *dice) spread(text string) (spread string, places []int) {
	for _, line := range plainLines(text) {
		spread += d.nothing() + d.loosen(line) + "\n"
		places = append(places, strings.Count(spread, "\n"))
	}
	if d.one(2) {
		return strings.TrimSuffix(spread, "\n"), places
	}
	return spread + d.nothing(), places
}
