package shell_test

import (
	"fmt"
	"regexp"
	"strings"
	"testing"

	"ferrule/api"
	"ferrule/script"
	"ferrule/shell"
)

// told puts a byte 10 for each mark.
func told(s string, mark string) string { return strings.ReplaceAll(s, mark, "\n") }

// The examples of chapter 22.
func TestExamples(t *testing.T) {
	refuses(t, "P22.1", "", api.ESYNTAX)
	refuses(t, "P22.1", "device 1 2 3", api.ESYNTAX)
	for text, want := range map[string]string{
		"device 40 8 48 2 48 9|read 0 1":                     "config|",
		"device 40 8 48 2 48 8||read 0":                      "line 3|",
		"device 40 8 48 2 48 8":                              "judge ok|both ok|",
		"device 40 8 48 2 48 8|":                             "judge ok|both ok|",
		"device 40 8 48 2 48 8 flat|show":                    "show|judge ok|both ok|",
		`device 40 8 48 2 48 8|write 0 2 "ab"|read 0 1|show`: `ok|ok "ab"|show 0+2|judge ok|both ok|`,
	} {
		says(t, "P22.1", told(text, "|"), told(want, "|"), api.OK)
	}
}

// The ten examples of the whole, DOC.md's.
func TestExamplesOfTheWhole(t *testing.T) {
	for _, x := range [][2]string{
		{`D|write 0 2 "ab"|read 0 1|show`, `ok|ok "ab"|show 0+2`},
		{`D|write 0 3 "x"|trim 1 1|show|read 0 3`, `ok|ok|show 0+1 2+1|ok "x"`},
		{`D|read 47 2|read 47 1|trim 0 0|write -1 1 ""`, `error 1|ok ""|error 1|error 1`},
		{`D|write 5 1 "a"|cut 0|write 5 1 "b"|read 5 1|mount|read 5 1`, `ok|ok|error 7|error 7|ok|ok "a"`},
		{`D|fail 0|write 0 1 "a"|read 0 1|stat`, `ok|ok|ok "a"|stat 1 1`},
		{`D|cut 1|trim 0 1|show|stat|mount|show`, `ok|error 7|off|off|ok|show`},
		{`D flat|write 0 2 "ab"|read 0 1|show`, `ok|ok "ab"|show 0+2`},
		{`D|write 0 1 "\xff\0z"|read 0 1`, `ok|ok "\xff\0z"`},
		{`D|# nothing|mount|mount`, `ok|ok`},
	} {
		text := told(strings.Replace(x[0], "D", device, 1), "|")
		says(t, "P22.1", text, told(x[1], "|")+"\njudge ok\nboth ok\n", api.OK)
	}
	s, e := shell.Run(device + "\nwrite 0 48 \"\"\nshow\ntrim 0 48\nshow\n")
	if form := regexp.MustCompile(`^ok\nshow 0\+[0-9]+( [0-9]+\+[0-9]+)*\nok\nshow\njudge ok\nboth ok\n$`); !form.MatchString(s) || e != api.OK {
		t.Errorf("P22.1: %q, %d", s, e)
	}
}

// text tells a Config and commands.
func text(c api.Config, l []script.Command) string { return deviceLine(c) + "\n" + script.Print(l) }

// P22.1, P22.2: rolled texts on several Configs, with cuts, mounts and failures: each
// line is what play's own calls answer; both kinds of device are told alike.
func TestRolledScripts(t *testing.T) {
	for i, c := range configs() {
		t.Run(deviceLine(c), func(t *testing.T) {
			t.Parallel()
			lines := map[string]int{}
			for seed := range 12 {
				r := newRoller(c, 1000*i+seed)
				l := r.script(200, api.MaxText-50)
				said := plays(t, "P22.1", text(c, l))
				says(t, "P22.2: flat", text(flat(c), l), said, api.OK)
				if n := strings.Count(said, "\n"); n != len(l)+2 {
					t.Errorf("P22.1: %d lines of %d commands", n, len(l))
				}
				for _, line := range strings.Split(said, "\n") {
					word, _, _ := strings.Cut(line, " ")
					lines[word]++
				}
			}
			for _, word := range []string{"ok", "error", "show", "stat", "off"} {
				if lines[word] < 10 {
					t.Errorf("the test's scripts have only %d lines of %s", lines[word], word)
				}
			}
		})
	}
}

// P22.1: scripts of no command at all.
func TestNoCommand(t *testing.T) {
	for _, c := range configs() {
		for _, c := range []api.Config{c, flat(c)} {
			for _, behind := range []string{"", "\n", "\n\n", "\n \t", "\n#", "\n# read 0 1\n\n\t#x\n"} {
				says(t, "P22.1", deviceLine(c)+behind, "judge ok\nboth ok\n", api.OK)
			}
		}
	}
}

// P22.1: the Config is the one that the line tells, its numbers in their order: how many
// sectors there are, after how many failures a command answers otherwise, and into how
// many runs the sectors fall, hangs on it.
func TestWhichConfig(t *testing.T) {
	for _, c := range configs() {
		l := []script.Command{script.Read{Lba: c.Capacity - 1, N: 1}, script.Read{Lba: c.Capacity, N: 1}, script.Read{N: c.Capacity}, script.Read{N: c.Capacity + 1}}
		for range c.Spare + 3 {
			l = append(l, script.Fail{}, script.Write{N: 1, Data: "x"}, script.Mount{K: -1}, script.Stat{})
		}
		l = append(l, script.Mount{K: -1}, script.Show{})
		said := plays(t, "P22.1", text(c, l))
		if !strings.HasPrefix(said, "ok \"\"\nerror 1\nok \"\"\nerror 1\n") {
			t.Errorf("P22.1: %s: the capacity: %.40q", deviceLine(c), said)
		}
		if n := strings.Count(said, "stat "); n < c.Spare || n > c.Spare+1 {
			t.Errorf("P22.1: %s: of its failures %d are taken", deviceLine(c), n)
		}
	}
	for i, c := range configs() {
		r := newRoller(c, 50+i)
		var l []script.Command
		for range 150 {
			l = append(l, r.change())
		}
		plays(t, "P22.1", text(c, append(l, script.Show{}, script.Stat{})))
	}
}

// P22.1, P22.2: each command cut at several of its steps; what stands there ahead of
// the cut and behind it is what play tells.
func TestCuts(t *testing.T) {
	for _, x := range []string{`write 1 3 "xyz"`, "trim 0 5", "read 0 48", "mount", "mount 3", "show", "stat", `write 0 48 "q"`} {
		for k := 0; k < 60; k += 1 + k/8 {
			lines := fmt.Sprintf("write 0 4 \"old\"\ncut %d\n%s\nread 0 9\nshow\nstat\nmount %d\ntrim 3 1\nmount\nread 0 9\nshow\nstat\n", k, x, k/2)
			said := plays(t, "P22.1", device+"\n"+lines)
			says(t, "P22.2: flat", device+" flat\n"+lines, said, api.OK)
		}
	}
}

// P22.1: what is no ordinary byte is told by Quote, so that no line is torn.
func TestBytes(t *testing.T) {
	for b := range 256 {
		l := []script.Command{script.Write{Lba: 7, N: 2, Data: string([]byte{byte(b), 'x', byte(b)})}, script.Read{Lba: 7, N: 1}, script.Read{Lba: 8, N: 1}}
		said := plays(t, "P22.1", text(example, l))
		if strings.Count(said, "\n") != 5 {
			t.Errorf("P22.1: byte %d: %q", b, said)
		}
	}
}

// R5: the same text says the same.
func TestAgain(t *testing.T) {
	for seed := range 5 {
		s := text(example, newRoller(example, 70+seed).script(99, api.MaxText-50))
		first, _ := shell.Run(s)
		shell.Run(text(flat(example), newRoller(example, 80+seed).script(99, api.MaxText-50)))
		says(t, "R5", s, first, api.OK)
	}
}
