package script_test

import (
	"fmt"
	"regexp"
	"slices"
	"strconv"
	"strings"
	"testing"
	"unicode/utf8"

	"ferrule/api"
	"ferrule/script"
)

// dice roll numbers, the same ones for the same seed.
type dice struct{ state uint64 }

func (d *dice) roll(n int) int {
	d.state = d.state*6364136223846793005 + 1442695040888963407
	return int(d.state>>33) % n
}

func (d *dice) one(n int) bool { return d.roll(n) == 0 }

func pick[T any](d *dice, l []T) T { return l[d.roll(len(l))] }

// pieces are runes and bytes that are none, of which texts are put together.
var pieces = []string{
	"a", "z", "0", "x41", "n", "#", " ", "  ", "\"", "\\", "\\n", "\n", "\t", "\r", "\x00", "\x01", "\x1f", "\x7f",
	"\x80", "\x9f", "\xa0", "\xbf", "\xc3", "\xe2\x82", "\xed\xa0\x80", "\xef\xbf", "\xf0\x9f\x98", "\xf4\x90\x80\x80", "\xff",
	"\u0080", "\u0085", "\u009f", "\u00a0", "\u00e9", "\u07ff", "\u0800", "\u2027", "\u2028", "\u2029", "\u202a", "\u20ac",
	"\ufefe", "\ufeff", "\uff00", "\ufffc", "\ufffd", "\uffff", "\U00010000", "\U0001f600", "\U0010ffff",
}

// text rolls bytes of all kinds.
func (d *dice) text() string {
	s := ""
	for range d.roll(7) {
		s += pick(d, pieces)
	}
	return s
}

// number rolls one of at most nine digits, those at the ends among them.
func (d *dice) number() int {
	ends := []int{0, -1, 1, -2, 9, 10, -10, 99999999, 100000000, -100000000, 999999999, -999999999, 999999998}
	if d.one(2) {
		return pick(d, ends)
	}
	return d.roll(1999999999) - 999999999
}

// command rolls one of any type.
func (d *dice) command() script.Command {
	switch d.roll(9) {
	case 0:
		return script.Read{Lba: d.number(), N: d.number()}
	case 1, 2:
		return script.Write{Lba: d.number(), N: d.number(), Data: d.text()}
	case 3:
		return script.Trim{Lba: d.number(), N: d.number()}
	case 4:
		return script.Cut{K: d.number()}
	case 5:
		return script.Fail{K: d.number()}
	case 6:
		return script.Mount{K: d.number()}
	case 7:
		return script.Show{}
	}
	return script.Stat{}
}

func (d *dice) commands(n int) []script.Command {
	var l []script.Command
	for range n {
		l = append(l, d.command())
	}
	return l
}

// plainQuote is chapter 5's telling.
func plainQuote(s string) string {
	b := `"`
	for s != "" {
		r, n := utf8.DecodeRuneInString(s)
		named := map[rune]string{'"': `\"`, '\\': `\\`, '\n': `\n`, '\t': `\t`, 0: `\0`}
		switch {
		case r == utf8.RuneError && n == 1:
			b += fmt.Sprintf(`\x%02x`, s[0])
		case named[r] != "":
			b += named[r]
		case r < 32 || r == 127:
			b += fmt.Sprintf(`\x%02x`, r)
		case r >= 128 && r <= 159 || r == 0x2028 || r == 0x2029 || r == 0xfeff:
			b += fmt.Sprintf(`\u%04x`, r)
		default:
			b += s[:n]
		}
		s = s[n:]
	}
	return b + `"`
}

var escape = regexp.MustCompile(`(?s)\\(x[0-9a-f]{2}|u[0-9a-f]{4}|.|$)`)

// plainUnquote tells the bytes of which this is chapter 5's telling.
func plainUnquote(text string) (string, bool) {
	if len(text) < 2 || text[0] != '"' {
		return "", false
	}
	s := escape.ReplaceAllStringFunc(text[1:len(text)-1], func(e string) string {
		if named := map[string]string{`\"`: `"`, `\\`: `\`, `\n`: "\n", `\t`: "\t", `\0`: "\x00"}[e]; named != "" {
			return named
		}
		v, _ := strconv.ParseUint(e[min(2, len(e)):], 16, 16)
		if len(e) == 6 {
			return string(rune(v))
		}
		return string([]byte{byte(v)})
	})
	return s, plainQuote(s) == text
}

// The forms of the lines, by chapter 20's table.
var (
	passed  = regexp.MustCompile(`(?s)^[ \t]*(#.*)?$`)
	ranged  = regexp.MustCompile(`^[ \t]*(read|trim)[ \t]+(-?[0-9]{1,9})[ \t]+(-?[0-9]{1,9})[ \t]*$`)
	writing = regexp.MustCompile(`(?s)^[ \t]*(write)[ \t]+(-?[0-9]{1,9})[ \t]+(-?[0-9]{1,9})[ \t]+(".*")[ \t]*$`)
	counted = regexp.MustCompile(`^[ \t]*(cut|fail|mount)[ \t]+(-?[0-9]{1,9})[ \t]*$`)
	bare    = regexp.MustCompile(`^[ \t]*(mount|show|stat)[ \t]*$`)
)

// plainCommand reads a line by the table.
func plainCommand(line string) (script.Command, bool) {
	number := func(s string) int {
		v, _ := strconv.ParseInt(s, 10, 64)
		return int(v)
	}
	if m := ranged.FindStringSubmatch(line); m != nil {
		if m[1] == "read" {
			return script.Read{Lba: number(m[2]), N: number(m[3])}, true
		}
		return script.Trim{Lba: number(m[2]), N: number(m[3])}, true
	}
	if m := writing.FindStringSubmatch(line); m != nil {
		data, ok := plainUnquote(m[4])
		return script.Write{Lba: number(m[2]), N: number(m[3]), Data: data}, ok
	}
	if m := counted.FindStringSubmatch(line); m != nil {
		k := number(m[2])
		return map[string]script.Command{"cut": script.Cut{K: k}, "fail": script.Fail{K: k}, "mount": script.Mount{K: k}}[m[1]], true
	}
	if m := bare.FindStringSubmatch(line); m != nil {
		return map[string]script.Command{"mount": script.Mount{K: -1}, "show": script.Show{}, "stat": script.Stat{}}[m[1]], true
	}
	return nil, false
}

// plainParse is P20.2's words.
func plainParse(text string) ([]script.Command, int, api.Errno) {
	lines := strings.Split(text, "\n")
	if lines[len(lines)-1] == "" {
		lines = lines[:len(lines)-1]
	}
	if len(text) > 16384 || len(lines) > 1000 {
		return nil, 0, api.ELIMIT
	}
	var l []script.Command
	for i, line := range lines {
		if passed.MatchString(line) {
			continue
		}
		c, ok := plainCommand(line)
		if !ok {
			return nil, i + 1, api.ESYNTAX
		}
		l = append(l, c)
	}
	return l, 0, api.OK
}

// plainText is the table's telling.
func plainText(c script.Command) string {
	switch c := c.(type) {
	case script.Read:
		return fmt.Sprintf("read %d %d", c.Lba, c.N)
	case script.Write:
		return fmt.Sprintf("write %d %d %s", c.Lba, c.N, plainQuote(c.Data))
	case script.Trim:
		return fmt.Sprintf("trim %d %d", c.Lba, c.N)
	case script.Cut:
		return fmt.Sprintf("cut %d", c.K)
	case script.Fail:
		return fmt.Sprintf("fail %d", c.K)
	case script.Mount:
		return strings.TrimSuffix(fmt.Sprintf("mount %d", c.K), " -1")
	case script.Show:
		return "show"
	}
	return "stat"
}

// parses holds Parse against what it should answer.
func parses(t *testing.T, what, text string, want []script.Command, at int, e api.Errno) {
	t.Helper()
	l, line, f := script.Parse(text)
	if !slices.Equal(l, want) || line != at || f != e {
		t.Fatalf("P20.2: %s: Parse(%.300q): %.300v, %d, %d, want %.300v, %d, %d", what, text, l, line, f, want, at, e)
	}
}

// alike holds Parse against the words, and tells its error.
func alike(t *testing.T, what, text string) api.Errno {
	t.Helper()
	want, at, e := plainParse(text)
	parses(t, what, text, want, at, e)
	return e
}
