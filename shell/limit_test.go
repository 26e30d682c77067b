package shell_test

import (
	"strings"
	"testing"

	"ferrule/api"
)

// filled tells a text of just so many bytes: behind its beginning stands what fills it.
func filled(begin, fill string, bytes int) string {
	return begin + strings.Repeat(fill, bytes)[:bytes-len(begin)]
}

// P22.1: texts of just MaxText bytes, and of one more.
func TestMaxText(t *testing.T) {
	write := `write 0 1 "` + strings.Repeat("a", api.MaxText-len(device)-13) + `"`
	for _, x := range []struct {
		what, text, want string
		e                api.Errno
	}{
		{"a remark behind", filled(device+"\n#", "x", api.MaxText), ended, api.OK},
		{"a remark behind, flat", filled(device+" flat\n#", "\xff", api.MaxText), ended, api.OK},
		{"a remark ahead", "#" + strings.Repeat("x", api.MaxText-len(device)-2) + "\n" + device, ended, api.OK},
		{"blanks ahead", strings.Repeat(" ", api.MaxText-len(device)) + device, ended, api.OK},
		{"blanks behind", filled(device, "\t", api.MaxText), ended, api.OK},
		{"blanks between", "device" + strings.Repeat(" ", api.MaxText-len(device)) + strings.TrimPrefix(device, "device"), ended, api.OK},
		{"a long text", device + "\n" + write, "ok\n" + ended, api.OK},
		{"a long wrong line", filled(device+"\n", "x", api.MaxText), "line 2\n", api.OK},
		{"a wrong line behind a remark", filled(device+"\n#", "x", api.MaxText-2) + "\nx", "line 3\n", api.OK},
		{"a Config that may not be", filled(device+"0\n#", "x", api.MaxText), "config\n", api.OK},
		{"a remark alone", filled("#", "x", api.MaxText), "", api.ESYNTAX},
		{"blanks alone", strings.Repeat(" ", api.MaxText), "", api.ESYNTAX},
		{"a long first line", strings.Repeat("x", api.MaxText), "", api.ESYNTAX},
		{"a number of many digits", filled("device ", "8", api.MaxText), "", api.ESYNTAX},
		{"many numbers", filled("device", " 8", api.MaxText), "", api.ESYNTAX},
		{"many words", filled("", "a ", api.MaxText), "", api.ESYNTAX},
		{"no device", filled("show\n#", "x", api.MaxText), "", api.ESYNTAX},
	} {
		if len(x.text) != api.MaxText {
			t.Fatalf("%s: %d bytes", x.what, len(x.text))
		}
		says(t, "P22.1: just MaxText: "+x.what, x.text, x.want, x.e)
		for _, more := range []string{"\n", " ", "#", "x", "\x00", "\n\n"} {
			refuses(t, "P22.1: one more: "+x.what, x.text+more, api.ELIMIT)
			refuses(t, "P22.1: one more ahead: "+x.what, more+x.text, api.ELIMIT)
		}
		refuses(t, "P22.1: much more: "+x.what, strings.Repeat(x.text, 9), api.ELIMIT)
	}
	says(t, "P22.1: just MaxText, ended", filled(device+"\n#", "x", api.MaxText-1)+"\n", ended, api.OK)
	refuses(t, "P22.1: just MaxText, and ended", filled(device+"\n#", "x", api.MaxText)+"\n", api.ELIMIT)
	// Bytes are counted, not runes.
	refuses(t, "P22.1: runes", device+"\n#"+strings.Repeat("\u20ac", 6000), api.ELIMIT)
}

// P22.1: texts of just MaxLines lines, and of one more.
func TestMaxLines(t *testing.T) {
	for _, x := range []struct{ first, line, want string }{
		{device, "", ended},
		{device, " ", ended},
		{device + " flat", "#", ended},
		{device, "show", strings.Repeat("show\n", api.MaxLines-1) + ended},
		{device + " flat", "mount", strings.Repeat("ok\n", api.MaxLines-1) + ended},
		{device, "trim 0 1", strings.Repeat("ok\n", api.MaxLines-1) + ended},
		{device, "x", "line 2\n"},
		{device + "0", "show", "config\n"},
	} {
		text := x.first + "\n" + strings.Repeat(x.line+"\n", api.MaxLines-1)
		says(t, "P22.1: just MaxLines", text, x.want, api.OK)
		if x.line != "" {
			says(t, "P22.1: just MaxLines, the last one not ended", strings.TrimSuffix(text, "\n"), x.want, api.OK)
		}
		for _, more := range []string{"\n", " ", "#", "show", "x", "\x00", "x\n", "\n\n"} {
			refuses(t, "P22.1: a line more", text+more, api.ELIMIT)
		}
		for _, more := range []string{"\n", " \n", "#\n", "show\n", "x\n", device + "\n"} {
			refuses(t, "P22.1: a line more, ahead", more+text, api.ELIMIT)
		}
	}
	ahead := strings.Repeat("\n", api.MaxLines-1)
	says(t, "P22.1: the device's line is the last one", ahead+device, ended, api.OK)
	says(t, "P22.1: the device's line is the last one, ended", ahead+device+"\n", ended, api.OK)
	refuses(t, "P22.1: a line more behind it", ahead+device+"\n ", api.ELIMIT)
	refuses(t, "P22.1: the device's line is one too many", ahead+"\n"+device, api.ELIMIT)
	says(t, "P22.1: the last line is no command", device+"\n"+strings.Repeat("\n", api.MaxLines-2)+"x", "line 1000\n", api.OK)
	refuses(t, "P22.1: MaxLines lines of nothing", ahead+"\n", api.ESYNTAX)
	refuses(t, "P22.1: one more of them", ahead+"\n\n", api.ELIMIT)
}

// P22.1: both limits come ahead of a first line that is wrong, or not there, of lines
// that are no command, and of a Config that may not be.
func TestLimitsFirst(t *testing.T) {
	for _, first := range append([]string{"", "x", "show", "device", "device 1 2 3", device + " flats", device, device + " flat", "device 0 0 0 0 0 0", device + "\nx"}, wrong...) {
		for _, behind := range []string{
			strings.Repeat("\n", api.MaxLines+1), strings.Repeat("x\n", api.MaxLines+1), strings.Repeat("\n", api.MaxText), strings.Repeat("x\n", api.MaxText),
			"\n#" + strings.Repeat("x", api.MaxText), "\n" + strings.Repeat("x", api.MaxText), "\n" + strings.Repeat(" ", api.MaxText) + "show",
			strings.Repeat("x", api.MaxText+1), strings.Repeat(" ", api.MaxText+1), " " + strings.Repeat("8 ", api.MaxText/2),
		} {
			refuses(t, "P22.1: limits first", first+behind, api.ELIMIT)
			refuses(t, "P22.1: limits first", behind+"\n"+first, api.ELIMIT)
		}
	}
	refuses(t, "P22.1: limits first", strings.Repeat("\xff", 1<<22), api.ELIMIT)
	refuses(t, "P22.1: limits first", strings.Repeat("\n", 1<<22), api.ELIMIT)
}
