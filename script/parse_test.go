package script_test

import (
	"slices"
	"strings"
	"testing"

	"ferrule/api"
	"ferrule/script"
)

// wrong are lines that are no command, each with one fault.
var wrong = []string{
	// A part too few.
	"read", "read 1", "write", "write 1", "write 1 2", `write 1 "a"`, `write "a"`, "trim", "trim 1", "cut", "fail",
	// One too many.
	"read 1 2 3", "trim 1 2 3", `read 1 2 "a"`, `write 1 2 3 "a"`, `write 1 2 "a" "b"`, `write 1 2 "a" 3`, "cut 1 2", "fail 1 2", "mount 1 2", "mount mount", "show 1", "show show", "stat 1", "stat stat",
	"show # x", "mount #", "cut 1 # x", "read 1 2 #", `write 1 2 "a" # x`,
	// Another word.
	"reads 1 2", "rea 1 2", "r 1 2", "writ 1 2 \"a\"", "wrote 1 2 \"a\"", "erase 1", "sow", "shows", "state", "sta", "mounts", "moun", "help", "1", "-1", "\"a\"", "device 40 8 48 2 48 8", "read1 2", "cut1", "mount5", "show#", "\u00e9", "x#",
	// A great letter.
	"Read 1 2", "READ 1 2", "reaD 1 2", "Write 1 2 \"a\"", "Trim 1 2", "Cut 1", "Fail 1", "Mount", "Mount 1", "Show", "STAT",
	// Something else than a blank between, ahead or behind.
	"read,1,2", "read 1,2", "read\v1 2", "read\u00a01 2", "read 1\u20032", "\rshow", "show\r", "\r", "\v", "\f", "\x00", "show\x00", "\ufeffshow", "show\ufeff", "\u2028", "mount\u00a0", "\xff", "show\xff", "\xe2\x82show", "\u0085",
	// Texts.
	`write 1 2 a`, `write 1 2 'a'`, "write 1 2 `a`", `write 1 2 a"`, `write 1 2 "`, `write 1 2 "a`, `write 1 2 "a\"`, `write 1 2 "a\`, `write 1 2 "\`, `write 1 2"a"`, `write 1"a"`, `write 1 2 "a"b`, `write 1 2 "a" b`, `write 1 2 "a""b"`, `write 1 2 "a"\`, `write 1 2 ""a`, `write 1 2 "" ""`, "write 1 2 \"a\"\r", `write "a" 1 2`, `write 1 2 #"a"`,
	// Bytes that are no rune, and runes that are not told as they stand.
	"write 1 2 \"\xff\"", "write 1 2 \"a\x80\"", "write 1 2 \"\xc3\"", "write 1 2 \"\xe2\x82\"", "write 1 2 \"\xed\xa0\x80\"", "write 1 2 \"\x00\"", "write 1 2 \"\t\"", "write 1 2 \"\r\"", "write 1 2 \"\x1f\"", "write 1 2 \"\x7f\"", "write 1 2 \"\u0080\"", "write 1 2 \"\u009f\"", "write 1 2 \"\u2028\"", "write 1 2 \"\u2029\"", "write 1 2 \"\ufeff\"",
	// Runes told otherwise.
	`write 1 2 "\x41"`, `write 1 2 "\x0a"`, `write 1 2 "\x09"`, `write 1 2 "\x00"`, `write 1 2 "\x22"`, `write 1 2 "\xFF"`, `write 1 2 "\xf"`, `write 1 2 "\x"`, `write 1 2 "\x0g"`, `write 1 2 "\u0041"`, `write 1 2 "\u000a"`, `write 1 2 "\u00e9"`, `write 1 2 "\uFEFF"`, `write 1 2 "\u80"`, `write 1 2 "\xc3\xa9"`, `write 1 2 "\xef\xbb\xbf"`, `write 1 2 "\a"`, `write 1 2 "\r"`, `write 1 2 "\1"`, `write 1 2 "\'"`, `write 1 2 "\N"`,
}

// wrongNumbers are words that are no number.
var wrongNumbers = []string{
	"-", "--", "--1", "+1", "+", "-+1", "1-", "1-1", "- 1", "1_0", "1.0", "1e3", "0x1", "x", "#", "1#", "1\"", "\"1\"", "\"\"", "1,", "nil",
	"1234567890", "-1234567890", "0000000000", "-0000000001", "00000000000000000001", "9223372036854775807", "-9223372036854775808", "18446744073709551617", "4294967297",
	"\u0661", "\uff11", "\u00b2", "1\u00a0", "\u22121", "\u20131", "1\x00", "\xff", "1\xff", "1\r", "1\v",
}

// P20.2: the lines that are no command.
func TestNoCommand(t *testing.T) {
	lines := slices.Clone(wrong)
	for _, form := range []string{"read ? 2", "read 1 ?", "write ? 2 \"a\"", "write 1 ? \"a\"", "trim ? 2", "trim 1 ?", "cut ?", "fail ?", "mount ?"} {
		for _, n := range wrongNumbers {
			lines = append(lines, strings.Replace(form, "?", n, 1))
		}
	}
	ahead := []string{"", " \t", "#", "\t# read", "#\xff\x00\r", "show", "write 0 1 \"#\\n\"", " mount "}
	d := &dice{3}
	for _, line := range lines {
		parses(t, "alone", line, nil, 1, api.ESYNTAX)
		parses(t, "alone, ended", line+"\n", nil, 1, api.ESYNTAX)
		parses(t, "with blanks", "\t "+line+" \t", nil, 1, api.ESYNTAX)
		if e := alike(t, "alone", line); e != api.ESYNTAX {
			t.Fatalf("the plain reading takes %q", line)
		}
		parses(t, "as a remark", "#"+line, nil, 0, api.OK)
		for range 5 {
			text := ""
			n := d.roll(9)
			for range n {
				text += pick(d, ahead) + "\n"
			}
			parses(t, "behind others", text+line, nil, n+1, api.ESYNTAX)
			parses(t, "ahead of others", text+line+"\nshow\n"+pick(d, lines), nil, n+1, api.ESYNTAX)
		}
	}
}

// P20.2: which line it is, counted with those that are passed over.
func TestFirstWrongLine(t *testing.T) {
	for n := range api.MaxLines {
		text := strings.Repeat("\n", n) + "x"
		parses(t, "behind empty lines", text, nil, n+1, api.ESYNTAX)
		parses(t, "behind remarks", strings.ReplaceAll(text, "\n", "#\n"), nil, n+1, api.ESYNTAX)
		parses(t, "behind commands", strings.ReplaceAll(text, "\n", "mount\n"), nil, n+1, api.ESYNTAX)
	}
	parses(t, "two of them", "show\n\nx\ny", nil, 3, api.ESYNTAX)
	parses(t, "a byte 13 ahead of the end", "show\r\nshow\r\n", nil, 1, api.ESYNTAX)
	parses(t, "a byte 13 behind a remark", "# x\r\nshow\n", []script.Command{script.Show{}}, 0, api.OK)
	parses(t, "a line of a byte 13", "show\n\r\n", nil, 2, api.ESYNTAX)
	parses(t, "a text that goes on in the next line", "write 0 1 \"a\nb\"", nil, 1, api.ESYNTAX)
	parses(t, "a command that goes on in the next line", "read 1\n2", nil, 1, api.ESYNTAX)
}

// P20.2: MaxText.
func TestMaxText(t *testing.T) {
	long := `write 0 1 "` + strings.Repeat("a", api.MaxText-12) + `"`
	if len(long) != api.MaxText {
		t.Fatal(len(long))
	}
	command := []script.Command{script.Write{N: 1, Data: strings.Repeat("a", api.MaxText-12)}}
	parses(t, "just MaxText", long, command, 0, api.OK)
	parses(t, "a blank more", long+" ", nil, 0, api.ELIMIT)
	parses(t, "a byte 10 more", long+"\n", nil, 0, api.ELIMIT)
	for _, fill := range []string{" ", "\t", "#", "\xff", "\u20ac", "x", "\x00"} {
		full := strings.Repeat(fill, api.MaxText)
		alike(t, "just MaxText", full[:api.MaxText])
		alike(t, "just MaxText, a remark", "#"+full[:api.MaxText-1])
		alike(t, "just MaxText, ended", full[:api.MaxText-1]+"\n")
		parses(t, "one more", full[:api.MaxText]+" ", nil, 0, api.ELIMIT)
		parses(t, "a remark, one more", "#"+full[:api.MaxText], nil, 0, api.ELIMIT)
		parses(t, "one more, ended", full[:api.MaxText]+"\n", nil, 0, api.ELIMIT)
		parses(t, "no command ahead", "x\n"+full, nil, 0, api.ELIMIT)
		parses(t, "much more", strings.Repeat(full, 100), nil, 0, api.ELIMIT)
	}
	parses(t, "runes are not bytes", "#"+strings.Repeat("\u20ac", 6000), nil, 0, api.ELIMIT)
	parses(t, "blanks up to MaxText", strings.Repeat(" ", api.MaxText-4)+"show", []script.Command{script.Show{}}, 0, api.OK)
}

// P20.2: MaxLines.
func TestMaxLines(t *testing.T) {
	for _, line := range []string{"", " ", "#", "show", "x", "\r"} {
		full := strings.Repeat(line+"\n", api.MaxLines)
		alike(t, "just MaxLines", full)
		alike(t, "just MaxLines, the last one not ended", strings.TrimSuffix(full, "\n"))
		alike(t, "one less, and another", full[len(line)+1:]+"mount 3")
		for _, last := range []string{" ", "#", "show", "x", "\n", "\x00"} {
			parses(t, "one more", full+last, nil, 0, api.ELIMIT)
			parses(t, "one more, ended", full+last+"\n", nil, 0, api.ELIMIT)
			parses(t, "one more, ahead", last+"\n"+full, nil, 0, api.ELIMIT)
		}
	}
	shows := slices.Repeat([]script.Command{script.Show{}}, api.MaxLines)
	parses(t, "just MaxLines", strings.Repeat("show\n", api.MaxLines), shows, 0, api.OK)
	parses(t, "only bytes 10", strings.Repeat("\n", api.MaxText), nil, 0, api.ELIMIT)
	parses(t, "both limits", strings.Repeat("\n", api.MaxText+1), nil, 0, api.ELIMIT)
}

// P20.2: texts of nothing.
func TestNothing(t *testing.T) {
	for _, text := range []string{"", "\n", "\n\n", " ", "\t", " \t \n\t", "#", "# x", " #", "\t#\n", "##", "#\n#\n \n\n#", "#\xff\xe2\x82\r\x00", "# write 0 1 \"a"} {
		parses(t, "nothing", text, nil, 0, api.OK)
	}
}

// P20.2, P20.4: blanks at all places where they may be, and none where they must be.
func TestBlanks(t *testing.T) {
	for _, x := range []struct {
		parts []string
		want  script.Command
	}{
		{[]string{"read", "1", "-2"}, script.Read{Lba: 1, N: -2}},
		{[]string{"write", "1", "2", `"a b"`}, script.Write{Lba: 1, N: 2, Data: "a b"}},
		{[]string{"trim", "-1", "2"}, script.Trim{Lba: -1, N: 2}},
		{[]string{"cut", "1"}, script.Cut{K: 1}},
		{[]string{"fail", "1"}, script.Fail{K: 1}},
		{[]string{"mount", "1"}, script.Mount{K: 1}},
		{[]string{"mount"}, script.Mount{K: -1}},
		{[]string{"show"}, script.Show{}},
		{[]string{"stat"}, script.Stat{}},
	} {
		blanks := []string{" ", "\t", "  ", "\t\t", " \t", "\t ", " \t \t "}
		for place := range len(x.parts) + 1 {
			for _, b := range append(blanks, "") {
				text := ""
				for i, part := range append(slices.Clone(x.parts), "") {
					switch {
					case i == place:
						text += b
					case i > 0 && i < len(x.parts):
						text += " "
					}
					text += part
				}
				if b == "" && place > 0 && place < len(x.parts) {
					parses(t, "no blank between", text, nil, 1, api.ESYNTAX)
				} else {
					parses(t, "blanks", text, []script.Command{x.want}, 0, api.OK)
				}
			}
			for _, b := range []string{"\r", "\v", "\f", "\x00", "\u00a0", "\u2003", "\u3000", "\u0085", "\ufeff"} {
				parts := slices.Insert(slices.Clone(x.parts), place, b)
				parses(t, "what is no blank", strings.Join(parts, " "), nil, 1, api.ESYNTAX)
				parses(t, "what is no blank", strings.Join(x.parts[:place], " ")+b+strings.Join(x.parts[place:], " "), nil, 1, api.ESYNTAX)
			}
		}
	}
}

// P20.4: blanks and remarks change nothing.
func TestBlanksAndRemarks(t *testing.T) {
	d := &dice{4}
	blanks := func(n int) string {
		s := ""
		for range n {
			s += pick(d, []string{" ", "\t"})
		}
		return s
	}
	for range 2000 {
		l := d.commands(d.roll(12))
		text := ""
		for _, c := range l {
			for d.one(3) {
				text += blanks(d.roll(3)) + pick(d, []string{"", "#", "# read 1", "#\"", "#" + strings.ReplaceAll(d.text(), "\n", "")}) + "\n"
			}
			parts := strings.SplitN(plainText(c), " ", 4)
			line := blanks(d.roll(3)) + parts[0]
			for _, p := range parts[1:] {
				line += blanks(1+d.roll(3)) + p
			}
			text += line + blanks(d.roll(3)) + "\n"
		}
		if d.one(2) {
			text = strings.TrimSuffix(text, "\n")
		}
		if len(text) <= api.MaxText {
			parses(t, "P20.4: blanks and remarks", text, l, 0, api.OK)
		}
	}
}

// P20.2: lines with a byte more, less or another one, at each place.
func TestNearlyCommands(t *testing.T) {
	errors := map[api.Errno]int{}
	for _, line := range []string{"read 12 -3", "write 0 1 \"a\\x01\\n\u00e9\" ", "trim -1 23", "cut 123456789", "fail -1", "mount 7", "mount", "show", "stat\n# x", " # x"} {
		for i := range len(line) + 1 {
			for b := range 256 {
				errors[alike(t, "a byte more", line[:i]+string([]byte{byte(b)})+line[i:])]++
				if i < len(line) {
					errors[alike(t, "another byte", line[:i]+string([]byte{byte(b)})+line[i+1:])]++
				}
			}
			if i < len(line) {
				errors[alike(t, "a byte less", line[:i]+line[i+1:])]++
			}
		}
	}
	if errors[api.OK] < 500 || errors[api.ESYNTAX] < 5000 {
		t.Errorf("the lines are too much alike: %v", errors)
	}
}

// P20.2: texts put together at random.
func TestRolled(t *testing.T) {
	d := &dice{5}
	words := []string{"read", "write", "trim", "cut", "fail", "mount", "show", "stat", "#", "1", "-1", "0", "12", "999999999", "1234567890", `"a"`, `""`, `"\xff`, `\n"`, "\n", "\n", "\n", "x", "\r"}
	errors := map[api.Errno]int{}
	for range 60000 {
		text := ""
		for range d.roll(12) {
			text += pick(d, words) + pick(d, []string{" ", " ", "\t", "\n", ""})
		}
		errors[alike(t, "rolled", text)]++
	}
	for range 20000 { // one fault among right commands, or none
		l := d.commands(1 + d.roll(6))
		text := script.Print(l)
		if i := d.roll(len(text)); d.one(2) {
			text = text[:i] + pick(d, pieces) + text[i+d.roll(2):]
		}
		errors[alike(t, "rolled commands", text)]++
	}
	if errors[api.OK] < 10000 || errors[api.ESYNTAX] < 10000 {
		t.Errorf("the texts are too much alike: %v", errors)
	}
}
