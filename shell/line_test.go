package shell_test

import (
	"fmt"
	"strings"
	"testing"

	"ferrule/api"
	"ferrule/script"
)

// wrong are lines that are no command, each in its own way.
var wrong = []string{
	"x", "read", "read 0", "read 0 1 2", "read 0 x", "read 0 1234567890", "read +0 1", "READ 0 1", "write 0 1", "write 0 1 x", "write 0 1 \"a", "write 0 1 \"a\" b", "write 0 1 \"\xff\"", "trim 0", "cut", "cut 1 2", "fail", "mount x", "mount 1 2", "show 1", "show #", "stat stat",
	device, device + " flat", "device", "device 1", "flat", "config", "line 3", "judge ok", "\r", "show\r", "\x0b", "\x00", "\xff", "\u00a0", "\ufeff#",
}

// P22.1: N is counted in the whole text: with what stands ahead of the device's line,
// and with what is passed over behind it.
func TestLine(t *testing.T) {
	d := &dice{2}
	for _, line := range wrong {
		for range 12 {
			ahead := d.nothing() + d.nothing() + d.loosen(pick(d, []string{device, device + " flat"})) + "\n" + d.nothing()
			for range d.roll(5) {
				ahead += d.loosen(pick(d, []string{"show", "mount", "read 0 1", "write 0 1 \"a\\n\"", "cut 3", "fail 1", "trim 9 9", "stat"})) + "\n" + d.nothing()
			}
			want := fmt.Sprintf("line %d\n", 1+strings.Count(ahead, "\n"))
			for _, behind := range []string{"", "\n", "\n\n", "\n#\n", "\nshow", "\nshow\n", "\ny\n", "\n" + pick(d, wrong), "\n" + pick(d, wrong) + "\n"} {
				says(t, "P22.1: line", ahead+line+behind, want, api.OK)
			}
		}
	}
}

// P22.1: each number that a line may have.
func TestLineNumbers(t *testing.T) {
	for n := range api.MaxLines - 1 {
		want := fmt.Sprintf("line %d\n", n+2)
		says(t, "P22.1: behind the device's line", device+"\n"+strings.Repeat("\n", n)+"x", want, api.OK)
		says(t, "P22.1: ahead of it", strings.Repeat("#\n", n)+device+"\nx\n", want, api.OK)
		says(t, "P22.1: both", strings.Repeat("\n", n/2)+device+" flat\n"+strings.Repeat("#\n", n-n/2)+"x\n", want, api.OK)
		says(t, "P22.1: commands", device+"\n"+strings.Repeat("show\n", n)+"x\n", want, api.OK)
	}
}

// P22.1: which of several it is, and the last one.
func TestWhichLine(t *testing.T) {
	for text, want := range map[string]string{
		"D|x":                         "line 2",
		"D|x|":                        "line 2",
		"D|x|y":                       "line 2",
		"D|show|y|x|":                 "line 3",
		"D|x|show|x":                  "line 2",
		"D|show|show|x":               "line 4",
		"D|show|show|x|":              "line 4",
		"D|D":                         "line 2",
		"D|D|":                        "line 2",
		"D|D flat":                    "line 2",
		"D flat|D":                    "line 2",
		"D flat|show|D flat":          "line 3",
		"|#|D||#|D|x":                 "line 6",
		"#D|D|#D|D":                   "line 4",
		"#x|D|#x|x":                   "line 4",
		"||||D|x":                     "line 6",
		"D|||||x":                     "line 6",
		"D|write 0 1 \"a|b\"":         "line 2",
		"D|read 0|1":                  "line 2",
		"D|show|flat":                 "line 3",
		"D|mount 0|cut 1|trim 0 x":    "line 4",
		"device 0 0 0 0 0 0|x":        "line 2",
		"|device 40 8 48 2 48 9||x|x": "line 4",
	} {
		text := strings.ReplaceAll(told(text, "|"), "D", device)
		says(t, "P22.1: line", text, want+"\n", api.OK)
	}
	// Behind a first line that is wrong nothing else is looked at.
	for _, line := range wrong {
		if !strings.HasPrefix(line, device) {
			refuses(t, "P22.1: the first line", line+"\n"+device+"\n", api.ESYNTAX)
			refuses(t, "P22.1: the first line", "#\n"+line+"\nx\n", api.ESYNTAX)
		}
	}
}

// P22.1: a line that is no command comes ahead of a Config that may not be.
func TestLineAheadOfConfig(t *testing.T) {
	for place := range 6 {
		for _, v := range []int{-1, 0, 600} {
			line, _ := with(example, place, v)
			if place == 3 && v == 0 {
				continue
			}
			for _, line := range []string{line, line + " flat"} {
				says(t, "P22.1: config", line+"\nshow\n", "config\n", api.OK)
				for _, x := range wrong {
					says(t, "P22.1: line", line+"\nshow\n"+x, "line 3\n", api.OK)
					says(t, "P22.1: line", "#\n"+line+"\n"+x+"\nshow\n", "line 3\n", api.OK)
				}
			}
		}
	}
}

// P22.2: blanks, remarks and empty lines at all places change nothing but the N of
// `line`.
func TestSpread(t *testing.T) {
	d := &dice{3}
	for i, c := range configs()[:7] {
		for seed := range 6 {
			first := deviceLine(c) + "\n" + script.Print(newRoller(c, 300+10*i+seed).script(40, 4000))
			said := plays(t, "P22.2", first)
			for range 4 {
				spread, _ := d.spread(first)
				says(t, "P22.2: spread", spread, said, api.OK)
			}
		}
	}
	for range 400 {
		lines := []string{pick(d, []string{device, device + " flat", "device 40 8 48 2 48 9"})}
		for range d.roll(9) {
			lines = append(lines, "show")
		}
		at := len(lines)
		lines = append(lines, pick(d, []string{"x", "read 0", "cut 1 2", device, "write 1 2 3", "trim \"1\""}), pick(d, []string{"show", "y"}))
		first := strings.Join(lines, "\n") + "\n"
		says(t, "P22.1: line", first, fmt.Sprintf("line %d\n", at+1), api.OK)
		spread, places := d.spread(first)
		says(t, "P22.2: spread", spread, fmt.Sprintf("line %d\n", places[at]), api.OK)
	}
}

// P22.1: texts with a byte more, less, or another one, at each place.
func TestNearlyRight(t *testing.T) {
	outcomes := map[string]int{}
	for _, first := range []string{"#\n" + device + "\nread 0 1\n", device + " flat\n\nmount", " device 8 4 1 0 9 1\nx"} {
		for i := range len(first) + 1 {
			for b := range 256 {
				texts := []string{first[:i] + string([]byte{byte(b)}) + first[i:]}
				if i < len(first) {
					texts = append(texts, first[:i]+string([]byte{byte(b)})+first[i+1:])
				}
				if i < len(first) && b == 0 {
					texts = append(texts, first[:i]+first[i+1:], first[:i])
				}
				for _, x := range texts {
					s, e := alike(t, "P22.1: nearly", x)
					word, _, _ := strings.Cut(s, " ")
					outcomes[fmt.Sprintf("%d %s", e, word)]++
				}
			}
		}
	}
	for _, want := range []string{"3 ", "0 line", "0 config\n", "0 ok", "0 ok\njudge"} {
		if outcomes[want] == 0 {
			t.Errorf("the test's texts have none of %q: %v", want, outcomes)
		}
	}
}

// R1: texts of any bytes.
func TestAnyBytes(t *testing.T) {
	d := &dice{4}
	pieces := []string{"device", " 40 8 48 2 48 8", " flat", " ", "\t", "\n", "\n\n", "#", "\r", "\x00", "\xff", "\xe2\x82", "\u00a0", "\u2028", "\"", "\\", "8", "-", "+", "read 0 1", "write 0 1 \"", "show\n", "mount", "cut 3\n", "x", device + "\n", device + " flat\n"}
	for range 20000 {
		text := ""
		for range d.roll(12) {
			text += pick(d, pieces)
		}
		alike(t, "P22.1: any bytes", text)
	}
}
