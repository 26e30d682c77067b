package shell_test

import (
	"slices"
	"strings"
	"testing"

	"ferrule/api"
	"ferrule/size"
)

// ended is what is said of a text whose only line is a right one.
const ended = "judge ok\nboth ok\n"

// surroundings are what may stand ahead of a first line, and behind it.
var surroundings = [][2]string{
	{"", ""}, {"", "\n"}, {"\n", "\n"}, {"# x\n \t\n\n#\n", "\n# y\n"},
	{"", "\nshow\n"}, {"#\n", "\nread 0 1\nx\n"}, {"", "\nx"}, {"", "\n" + device + "\n"}, {"#" + device + "\n", "\n" + device + " flat"},
}

// noDevice holds that a first line is refused, whatever stands around it.
func noDevice(t *testing.T, what, line string) {
	t.Helper()
	for _, s := range surroundings {
		refuses(t, "P22.1: "+what, s[0]+line+s[1], api.ESYNTAX)
	}
	if deviceForm.MatchString(line) || passed.MatchString(line) {
		t.Fatalf("%s: the plain reading takes %q", what, line)
	}
}

// parts are those of the device's line, of both kinds.
func parts() [][]string {
	l := strings.Fields(device)
	return [][]string{l, append(slices.Clone(l), "flat")}
}

// otherParts are lines of these parts with one missing, one too many, another one in
// its place, and two changed for one another.
func otherParts(l []string) [][]string {
	var lines [][]string
	for i := range len(l) + 1 {
		for _, x := range []string{"8", "0", "-1", "flat", "device", "x", "#", "\"8\"", "show", "flat#", ","} {
			lines = append(lines, slices.Insert(slices.Clone(l), i, x))
			if i < len(l) {
				lines = append(lines, slices.Replace(slices.Clone(l), i, i+1, x))
			}
		}
	}
	for i := range l {
		lines = append(lines, slices.Delete(slices.Clone(l), i, i+1))
		for k := range i {
			other := slices.Clone(l)
			other[i], other[k] = l[k], l[i]
			lines = append(lines, other)
		}
	}
	return lines
}

// P22.1: lines of other parts.
func TestOtherParts(t *testing.T) {
	refused := 0
	for _, l := range parts() {
		for _, other := range otherParts(l) {
			for _, s := range surroundings {
				if _, e := alike(t, "P22.1: other parts", s[0]+strings.Join(other, " ")+s[1]); e == api.ESYNTAX {
					refused++
				}
			}
		}
		for i := range l[:len(strings.Fields(device))] {
			noDevice(t, "a part missing", strings.Join(slices.Delete(slices.Clone(l), i, i+1), " "))
		}
		for _, x := range []string{"8", "0", "-1", "device", "show", "#", "flat"} {
			if more := strings.Join(append(slices.Clone(l), x), " "); more != device+" flat" {
				noDevice(t, "one too many", more)
			}
		}
	}
	if refused < 1000 {
		t.Errorf("of the test's lines only %d are refused", refused)
	}
	for n := range 40 {
		if n != 6 {
			noDevice(t, "so many numbers", "device"+strings.Repeat(" 8", n))
			noDevice(t, "so many numbers, flat", "device"+strings.Repeat(" 8", n)+" flat")
		}
		noDevice(t, "so many flats", device+strings.Repeat(" flat", 2+n))
	}
}

// P22.1: other words for `device` and `flat`.
func TestOtherWords(t *testing.T) {
	numbers := strings.TrimPrefix(device, "device")
	for _, word := range []string{
		"", "Device", "DEVICE", "devicE", "devic", "evice", "d", "devices", "device:", "device,", "\"device\"", "de vice", "-device", "dev", "disk", "flat", "read", "write", "mount", "show", "line", "config",
		"d\u00e9vice", "\ufeffdevice", "device\u00a0", "\u00a0device", "device\x00", "\rdevice", "\x0bdevice", "\xff", "device\xff", "\uff44evice",
	} {
		noDevice(t, "another word for device", word+numbers)
	}
	for _, word := range []string{
		"Flat", "FLAT", "flaT", "fla", "lat", "f", "flats", "flatt", "-flat", "flat,", "\"flat\"", "fl at", "runs", "table", "true", "1", "0", "#", "#flat", "# flat", "flat#", "flat # x", "flat flat", "device",
		"flat\u00a0", "\u00a0flat", "flat\x00", "flat\r", "\rflat", "flat\x0b", "\ufeffflat", "flat\xff", "\uff46lat",
	} {
		noDevice(t, "another word for flat", device+" "+word)
	}
	for _, line := range []string{"read 0 1", "write 0 1 \"\"", "trim 0 1", "cut 1", "fail 1", "mount", "mount 1", "show", "stat", "x", "\x00", "\xff", "\r", "\u2028", "40 8 48 2 48 8"} {
		noDevice(t, "another line", line)
	}
}

// P22.1: numbers as chapter 20's.
func TestNumbers(t *testing.T) {
	for _, l := range parts() {
		for i := 1; i <= 6; i++ {
			put := func(word string) string {
				with := slices.Clone(l)
				with[i] = word
				return strings.Join(with, " ")
			}
			for _, word := range []string{
				"", "-", "--", "+", "+8", "-+8", "+-8", "--8", "8-", "8-8", "- 8", "+ 8", "8.", "8.0", "8,0", "8_0", "8e0", "0x8", "0b1", "0o7", "x", "8x", "x8", "#8", "8#", "\"8\"", "nil", "flat",
				"1234567890", "0000000008", "-0000000008", "-1234567890", "00000000000000000000000000000008", "4294967304", "-4294967288", "18446744073709551624", "9223372036854775807", "-9223372036854775808",
				"\u0668", "\uff18", "\u00b2", "\u2078", "\u22128", "8\u00a0", "\u20038", "8\x00", "\xff", "8\xff", "\xe2\x82", "8\r", "8\x0b", "8\x0c",
				strings.Repeat("8", 16000), strings.Repeat("-", 500),
			} {
				noDevice(t, "a number that is none", put(word))
			}
			noughts := strings.Repeat("0", 9-len(l[i])) + l[i]
			says(t, "P22.1: noughts ahead", put(noughts), ended, api.OK)
			says(t, "P22.1: noughts ahead", put("0"+l[i]), ended, api.OK)
			for _, word := range []string{"123456789", "999999999", "-1", "-12345678", "-123456789", "-999999999", "-" + noughts} {
				says(t, "P22.1: nine digits", put(word), "config\n", api.OK)
			}
		}
	}
	spare := "device 40 8 48 0 48 8"
	for _, word := range []string{"0", "-0", "00", "-00", "000000000", "-000000000"} {
		says(t, "P22.1: nought", strings.Replace(spare, " 0 ", " "+word+" ", 1), ended, api.OK)
	}
}

// P22.1: blanks ahead, between and behind, and what is none.
func TestBlanks(t *testing.T) {
	blanks := []string{" ", "\t", "  ", "\t\t", " \t", "\t ", " \t \t  "}
	none := []string{"\r", "\x0b", "\x0c", "\x00", "\u00a0", "\u2003", "\u3000", "\u0085", "\ufeff", "\u200b", ",", "_", "\xff"}
	for _, l := range parts() {
		for place := range len(l) + 1 {
			ahead, behind := strings.Join(l[:place], " "), strings.Join(l[place:], " ")
			for _, b := range blanks {
				for _, s := range []string{"", "\n", "\n\n#\n"} {
					says(t, "P22.1: blanks", ahead+b+behind+s, ended, api.OK)
				}
			}
			if place > 0 && place < len(l) {
				noDevice(t, "no blank", ahead+behind)
				if behind != "flat" {
					noDevice(t, "a byte 10", ahead+"\n"+behind)
				}
			}
			for _, b := range none {
				noDevice(t, "what is no blank", ahead+b+behind)
				noDevice(t, "what is no blank, with one behind", ahead+b+" "+behind)
				noDevice(t, "what is no blank, with one ahead", ahead+" "+b+behind)
				noDevice(t, "what is no blank, with two", ahead+" "+b+" "+behind)
			}
		}
	}
	// A byte 13 is no blank, in no line.
	refuses(t, "P22.1: a byte 13", device+"\r\n", api.ESYNTAX)
	refuses(t, "P22.1: a byte 13", device+" \r\nshow\r\n", api.ESYNTAX)
	refuses(t, "P22.1: a byte 13", "\r\n"+device+"\n", api.ESYNTAX)
	says(t, "P22.1: a byte 13", "#\r\n"+device+"\n", ended, api.OK)
	says(t, "P22.1: a byte 13", device+"\nshow\r\n", "line 2\n", api.OK)
	says(t, "P22.1: a byte 13", device+"\n\r\nshow\n", "line 2\n", api.OK)
}

// P22.1: texts with no line that is not passed over.
func TestNoLine(t *testing.T) {
	for _, text := range []string{
		"", "\n", "\n\n", " ", "\t", " \t \n\t", "#", "# x", " #", "\t#\n", "##", "#\n#\n \n\n#", "#\xff\x00\r",
		"#" + device, "# " + device + "\n", " \t#" + device + "\n#show\n", strings.Repeat("\n", api.MaxLines), strings.Repeat(" ", api.MaxText),
	} {
		refuses(t, "P22.1: no line", text, api.ESYNTAX)
	}
}

// P22.1: remarks and empty lines ahead of the first line.
func TestAhead(t *testing.T) {
	d := &dice{1}
	for range 300 {
		says(t, "P22.2", d.nothing()+d.nothing()+d.loosen(pick(d, []string{device, device + " flat"}))+"\n"+d.nothing(), ended, api.OK)
	}
	for n := range 200 {
		says(t, "P22.2", strings.Repeat("\n", n)+device, ended, api.OK)
		refuses(t, "P22.2", strings.Repeat("\n", n)+"show\n"+device, api.ESYNTAX)
	}
}

// with tells a Config's line in which the number at that place is another.
func with(c api.Config, place, v int) (string, api.Config) {
	*[]*int{&c.Blocks, &c.Pages, &c.Capacity, &c.Spare, &c.MaxRuns, &c.Window}[place] = v
	return deviceLine(c), c
}

// P22.1: each number just past what may be, and below 0.
func TestConfig(t *testing.T) {
	// Of the example's Config: the least and the greatest number at each place.
	for place, span := range [][2]int{{36, 64}, {8, 32}, {8, 48}, {0, 2}, {46, 143}, {8, 8}} {
		for _, c := range []api.Config{example, flat(example)} {
			for v := min(span[0]-3, -2); v <= span[1]+3; v++ {
				line, _ := with(c, place, v)
				want := ended
				if v < span[0] || v > span[1] {
					want = "config\n"
				}
				says(t, "P22.1: config", line, want, api.OK)
			}
		}
	}
}

// P22.1: each number from below 0 up to beyond every limit.
func TestConfigs(t *testing.T) {
	may := 0
	for _, c := range append(configs(), api.Config{Blocks: 64, Pages: 32, Capacity: 400, Spare: 1, MaxRuns: 512, Window: 16}) {
		for place := range 6 {
			for v := -3; v < 530; v++ {
				line, other := with(c, place, v)
				want := "config\n"
				if size.Good(other) {
					want = ended
					may++
				}
				says(t, "P22.1: config", line, want, api.OK)
				says(t, "P22.1: config, flat", line+" flat\n", want, api.OK)
			}
		}
	}
	if may < 500 {
		t.Errorf("of the tests' Configs only %d may be", may)
	}
	for _, line := range []string{"device 0 0 0 0 0 0", "device -1 -1 -1 -1 -1 -1", "device -40 -8 -48 -2 -48 -8", "device 999999999 999999999 999999999 999999999 999999999 999999999", "device 8 40 48 2 48 8", "device 40 8 48 8 48 2"} {
		says(t, "P22.1: config", line+"\nread 0 1\n", "config\n", api.OK)
		says(t, "P22.1: config, flat", line+" flat", "config\n", api.OK)
	}
}
