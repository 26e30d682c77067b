package shell_test

import (
	"fmt"
	"regexp"
	"strconv"
	"strings"
	"testing"

	"ferrule/api"
	"ferrule/play"
	"ferrule/script"
	"ferrule/shell"
	"ferrule/size"
)

// device is the line of chapter 22's examples, and example its Config.
const device = "device 40 8 48 2 48 8"

var example = api.Config{Blocks: 40, Pages: 8, Capacity: 48, Spare: 2, MaxRuns: 48, Window: 8}

// The forms of lines, by the words of chapters 20 and 22.
var (
	passed     = regexp.MustCompile(`(?s)^[ \t]*(#.*)?$`)
	deviceForm = regexp.MustCompile(`^[ \t]*device((?:[ \t]+-?[0-9]{1,9}){6})([ \t]+flat)?[ \t]*$`)
)

// plainLines cuts a text into lines: nothing behind the last byte 10 is no line.
func plainLines(text string) []string {
	l := strings.Split(text, "\n")
	if l[len(l)-1] == "" {
		return l[:len(l)-1]
	}
	return l
}

// plainDevice reads the first line that is not passed over, and tells its place.
func plainDevice(lines []string) (c api.Config, at int, ok bool) {
	for i, line := range lines {
		if passed.MatchString(line) {
			continue
		}
		m := deviceForm.FindStringSubmatch(line)
		if m == nil {
			return c, 0, false
		}
		var v []int
		for _, word := range strings.Fields(m[1]) {
			n, _ := strconv.Atoi(word)
			v = append(v, n)
		}
		return api.Config{Blocks: v[0], Pages: v[1], Capacity: v[2], Spare: v[3], MaxRuns: v[4], Window: v[5], Flat: m[2] != ""}, i, true
	}
	return c, 0, false
}

// plainRun is P22.1's words.
func plainRun(text string) (string, api.Errno) {
	lines := plainLines(text)
	if len(text) > 16384 || len(lines) > 1000 {
		return "", api.ELIMIT
	}
	c, at, ok := plainDevice(lines)
	if !ok {
		return "", api.ESYNTAX
	}
	var commands []script.Command
	for i, line := range lines {
		if i <= at {
			continue
		}
		l, _, e := script.Parse(line)
		if e != api.OK {
			return fmt.Sprintf("line %d\n", i+1), api.OK
		}
		commands = append(commands, l...)
	}
	if !size.Good(c) {
		return "config\n", api.OK
	}
	return plainPlay(c, commands), api.OK
}

// plainPlay is what play's calls answer, as lines.
func plainPlay(c api.Config, l []script.Command) string {
	lines, e := play.Play(c, l)
	report, ok, f := play.Judge(c, l)
	at, g := play.Both(c, l)
	if e != api.OK || f != api.OK || g != api.OK {
		return fmt.Sprintf("the plain reading hands play what may not be: %d, %d, %d\n", e, f, g)
	}
	judge, both := "judge ok\n", "both ok\n"
	if !ok {
		judge = fmt.Sprintf("judge %d %s\n", report.At, report.Why)
	}
	if at != -1 {
		both = fmt.Sprintf("both %d\n", at)
	}
	told := ""
	for _, line := range lines {
		told += line + "\n"
	}
	return told + judge + both
}

// says holds what Run answers.
func says(t *testing.T, what, text, want string, e api.Errno) {
	t.Helper()
	s, f := shell.Run(text)
	if s != want || f != e {
		t.Fatalf("%s: Run(%.400q): %.400q, %d, want %.400q, %d", what, text, s, f, want, e)
	}
}

// refuses holds an error, and that nothing else is answered.
func refuses(t *testing.T, what, text string, e api.Errno) {
	t.Helper()
	says(t, what, text, "", e)
}

// plays holds a text of which each line is right, and tells what is said.
func plays(t *testing.T, what, text string) string {
	t.Helper()
	want, e := plainRun(text)
	if e != api.OK || !strings.HasSuffix(want, "judge ok\nboth ok\n") {
		t.Fatalf("%s: the plain reading of %.400q: %.400q, %d", what, text, want, e)
	}
	says(t, what, text, want, api.OK)
	return want
}

// alike holds Run against the plain reading, and tells what it says and its error.
func alike(t *testing.T, what, text string) (string, api.Errno) {
	t.Helper()
	want, e := plainRun(text)
	says(t, what, text, want, e)
	return want, e
}

// deviceLine tells a Config as the device's line.
func deviceLine(c api.Config) string {
	line := fmt.Sprintf("device %d %d %d %d %d %d", c.Blocks, c.Pages, c.Capacity, c.Spare, c.MaxRuns, c.Window)
	if c.Flat {
		line += " flat"
	}
	return line
}

func flat(c api.Config) api.Config {
	c.Flat = true
	return c
}
