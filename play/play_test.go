package play

import (
	"math"
	"slices"
	"strings"
	"testing"

	"ferrule/api"
	"ferrule/dev"
	"ferrule/quote"
	"ferrule/script"
)

var _ func(api.Config, []script.Command) ([]string, api.Errno) = Play
var _ func(api.Config, []script.Command) (Report, bool, api.Errno) = Judge
var _ func(api.Config, []script.Command) (int, api.Errno) = Both

// parse reads a text with | for a byte 10.
func parse(t *testing.T, text string) []script.Command {
	t.Helper()
	l, at, e := script.Parse(strings.ReplaceAll(text, "|", "\n"))
	if e != api.OK {
		t.Fatalf("the tests' own script: line %d: %d", at, e)
	}
	return l
}

// answers holds Play's lines against a text with "; " between them, on both kinds of
// device, and Judge and Both against P21.4.
func answers(t *testing.T, c api.Config, l []script.Command, want string) {
	t.Helper()
	for _, c := range []api.Config{c, flat(c)} {
		lines, e := Play(c, l)
		if got := strings.Join(lines, "; "); got != want || e != api.OK || len(lines) != len(l) {
			t.Errorf("P21.1: Play(%v, %s): %s, %d, want %s", c, tell(l), got, e, want)
		}
		holds(t, c, l)
	}
}

// holds asks for P21.4.
func holds(t *testing.T, c api.Config, l []script.Command) {
	t.Helper()
	if r, ok, e := Judge(c, l); !ok || r != (Report{}) || e != api.OK {
		t.Errorf("P21.4: Judge(%v, %s): %v, %v, %d", c, tell(l[:min(len(l), r.At+1)]), r, ok, e)
	}
	if n, e := Both(c, l); n != -1 || e != api.OK {
		t.Errorf("P21.4: Both(%v, %s): %d, %d", c, tell(l[:min(len(l), max(0, n+1))]), n, e)
	}
}

// The examples of chapter 21, and those of DOC.md that name commands.
func TestExamples(t *testing.T) {
	for _, x := range [][2]string{
		{
			`write 0 2 "ab"|read 0 1|read 1 1|show|trim 0 9|stat|read 48 1|cut 0|trim 0 1|read 0 1|mount|read 0 1`,
			`ok; ok "ab"; ok ""; show 0+2; ok; stat 0 0; error 1; ok; error 7; error 7; ok; ok ""`,
		},
		{`write 0 2 "ab"|read 0 1|show`, `ok; ok "ab"; show 0+2`},
		{`write 0 3 "x"|trim 1 1|show|read 0 3`, `ok; ok; show 0+1 2+1; ok "x"`},
		{`read 47 2|read 47 1|trim 0 0|write -1 1 ""`, `error 1; ok ""; error 1; error 1`},
		{`write 5 1 "a"|cut 0|write 5 1 "b"|read 5 1|mount|read 5 1`, `ok; ok; error 7; error 7; ok; ok "a"`},
		{`fail 0|write 0 1 "a"|read 0 1|stat`, `ok; ok; ok "a"; stat 1 1`},
		{`cut 1|trim 0 1|show|stat|mount|show`, `ok; error 7; off; off; ok; show`},
		{`write 0 1 "\xff\0z"|read 0 1`, `ok; ok "\xff\0z"`},
		{`# nothing|mount|mount`, `ok; ok`},
		{``, ``},
	} {
		answers(t, example, parse(t, x[0]), x[1])
	}
	lines, e := Play(example, parse(t, `write 0 48 ""|show|trim 0 48|show`))
	if e != api.OK || lines[0] != "ok" || !strings.HasPrefix(lines[1], "show 0+") || lines[2] != "ok" || lines[3] != "show" {
		t.Errorf("P21.1: Play: %v, %d", lines, e)
	}
}

// P21.1: a Read's line: the bytes 0 at its end are not told, others are.
func TestReadLine(t *testing.T) {
	full := strings.Repeat("f", 31)
	for _, x := range []struct {
		data string
		n    int
		want string
	}{
		{"", 1, `""`},
		{"\x00", 1, `""`},
		{strings.Repeat("\x00", 96), 3, `""`},
		{"a", 1, `"a"`},
		{"a\x00", 1, `"a"`},
		{"a\x00\x00b\x00", 1, `"a\0\0b"`},
		{"\x00a", 1, `"\0a"`},
		{full + "e", 1, `"` + full + `e"`},
		{full + "\x00", 1, `"` + full + `"`},
		{full + "\x00e", 2, `"` + full + `\0e"`},
		{full + "e" + strings.Repeat("\x00", 32) + "h", 3, `"` + full + `e` + strings.Repeat(`\0`, 32) + `h"`},
		{full + "e" + strings.Repeat("\x00", 64), 3, `"` + full + `e"`},
		{"0", 1, `"0"`},
		{"a0\x000", 1, `"a0\00"`},
		{"a\x000\x00", 1, `"a\00"`},
		{"\"\\\n\t\x01\x7f\xff", 1, `"\"\\\n\t\x01\x7f\xff"`},
		{"\u00e9\u0085\ufeff\ufffd\xc3", 1, `"` + "\u00e9" + `\u0085\ufeff` + "\ufffd" + `\xc3"`},
		{"\xff\x00\x00", 1, `"\xff"`},
		{"\xc3\x00", 1, `"\xc3"`},
		{" a ", 1, `" a "`},
		{"a\n", 1, `"a\n"`},
		{full + "efgh", 1, `"` + full + `e"`},
	} {
		l := []script.Command{script.Write{Lba: 5, N: x.n, Data: x.data}, script.Read{Lba: 5, N: x.n}}
		answers(t, example, l, "ok; ok "+x.want)
	}
	// A rune that two sectors have parts of is whole when both are read.
	l := []script.Command{
		script.Write{Lba: 0, N: 2, Data: full + "\u20ac"},
		script.Read{Lba: 0, N: 2}, script.Read{Lba: 0, N: 1}, script.Read{Lba: 1, N: 1},
	}
	answers(t, example, l, `ok; ok "`+full+"\u20ac"+`"; ok "`+full+`\xe2"; ok "\x82\xac"`)
}

// P21.1: Show and Stat: with no run, with some, with the power off, behind failures.
func TestShowAndStat(t *testing.T) {
	for _, x := range [][2]string{
		{`show|stat`, `show; stat 0 0`},
		{`write 3 4 ""|show|stat`, `ok; show 3+4; stat 0 1`},
		{`write 9 1 "z"|write 3 2 "x"|write 40 8 ""|show|stat`, `ok; ok; ok; show 3+2 9+1 40+8; stat 0 3`},
		{`write 3 6 "x"|trim 5 2|show|trim 0 48|show|stat`, `ok; ok; show 3+2 7+2; ok; show; stat 0 0`},
		{`write 3 1 "x"|write 4 1 "y"|show|stat`, `ok; ok; show 3+2; stat 0 1`},
		{`write 4 1 "x"|write 3 1 "y"|show|stat`, `ok; ok; show 3+1 4+1; stat 0 2`},
		{`write 3 2 "x"|cut 0|show|stat|trim 4 1|show|stat|read 3 1|mount|show|stat`, `ok; ok; show 3+2; stat 0 1; error 7; off; off; error 7; ok; show 3+2; stat 0 1`},
		{`fail 0|trim 0 9|write 0 1 "a"|write 5 1 "b"|write 9 2 "c"|stat|fail 0|write 20 1 "d"|stat|mount|stat`, `ok; ok; ok; ok; ok; stat 1 3; ok; ok; stat 2 4; ok; stat 2 4`},
		{`fail 1|stat|show|cut 0|write 0 1 "a"|stat|mount|stat|write 0 1 "b"|stat`, `ok; stat 0 0; show; ok; error 7; off; ok; stat 0 0; ok; stat 1 1`},
	} {
		answers(t, example, parse(t, x[0]), x[1])
	}
}

// P21.1: the errors of each command, and which of them it is with the power off.
func TestErrorLines(t *testing.T) {
	dark := `cut 0|write 0 1 "x"|`
	for _, x := range [][2]string{
		{`read -1 1|read 48 1|read 0 0|read 0 -1|read 0 49|read 1 48|read 47 1`, `error 1; error 1; error 1; error 1; error 1; error 1; ok ""`},
		{`write -1 1 ""|write 48 1 ""|write 0 0 ""|write 0 49 ""|write 47 2 ""|write 47 1 ""`, `error 1; error 1; error 1; error 1; error 1; ok`},
		{`trim -1 1|trim 48 1|trim 0 0|trim 0 49|trim 47 2|trim 47 1|trim 0 48`, `error 1; error 1; error 1; error 1; error 1; ok; ok`},
		{dark + `read 0 1|write 0 1 ""|trim 0 1|read 48 1|write 48 1 ""|trim 48 1`, `ok; error 7; error 7; error 7; error 7; error 1; error 1; error 1`},
		{dark + `mount 0|mount|trim 0 1`, `ok; error 7; ok; ok; ok`},
		{dark + `cut 0|mount|trim 0 1`, `ok; error 7; ok; ok; ok`},
	} {
		answers(t, example, parse(t, x[0]), x[1])
	}
	lines, _ := Play(example, parse(t, strings.Repeat(`fail 0|write 0 1 "a"|`, 3)+`mount|read 0 1|show|stat|trim 0 1`))
	if got, want := strings.Join(lines, "; "), `ok; ok; ok; ok; ok; error 13; error 13; error 7; off; off; error 7`; got != want {
		t.Errorf("P21.1: more failures than may be: %s, want %s", got, want)
	}
}

// P21.1: Cut and Fail with the power on and off: what they set, and what takes it away.
func TestCutAndFail(t *testing.T) {
	dark := `cut 0|write 0 1 "x"|`
	for _, x := range [][2]string{
		{`cut 0|cut -1|write 0 1 "x"`, `ok; ok; ok`},
		{`cut 999999999|write 0 1 "x"`, `ok; ok`},
		{`cut -5|write 0 1 "x"|cut 0|read 0 1|write 0 1 "y"`, `ok; ok; ok; ok "x"; error 7`},
		{`mount 0|trim 0 1|mount 999|trim 0 1|mount -7|trim 0 1`, `ok; error 7; ok; ok; ok; ok`},
		{dark + `cut 5|cut -1|fail 0|mount|write 0 1 "y"|stat`, `ok; error 7; ok; ok; ok; ok; ok; stat 1 1`},
		{dark + `fail 0|fail -1|mount|write 0 1 "y"|stat`, `ok; error 7; ok; ok; ok; ok; stat 0 1`},
		{`fail 0|mount|write 0 1 "y"|stat|write 0 1 "z"|stat`, `ok; ok; ok; stat 1 1; ok; stat 1 1`},
		{`fail 0|fail 1|cut 16|write 0 1 "y"|mount|stat|write 0 1 "z"|stat`, `ok; ok; ok; error 7; ok; stat 0 0; ok; stat 1 1`},
		{`cut 16|write 0 1 "y"|mount|show`, `ok; error 7; ok; show`},
	} {
		answers(t, example, parse(t, x[0]), x[1])
	}
	for _, k := range far {
		l := []script.Command{script.Cut{K: k}, script.Fail{K: k}, script.Trim{N: 1}}
		want := "ok; ok; ok"
		if k == 0 {
			want = "ok; ok; error 7"
		}
		answers(t, example, l, want)
		l = []script.Command{script.Mount{K: k}, script.Trim{N: 1}}
		answers(t, example, l, want[4:])
	}
}

// P21.1: commands of other types do nothing.
func TestStrangers(t *testing.T) {
	for _, x := range strangers() {
		l := append(parse(t, `write 0 2 "ab"`), x, script.Show{}, script.Cut{K: 0}, x, script.Trim{N: 1}, x, script.Show{}, script.Mount{K: -1}, x, script.Read{N: 2})
		answers(t, example, l, `ok; none; show 0+2; ok; none; error 7; none; off; ok; none; ok "ab"`)
	}
	answers(t, example, strangers(), strings.TrimSuffix(strings.Repeat("none; ", len(strangers())), "; "))
}

// P21.1: Write's data: less than its range, as much, more; numbers at the ends of int.
func TestData(t *testing.T) {
	for _, n := range []int{0, 1, 31, 32, 33, 63, 64, 65, 5000} {
		data := strings.Repeat("a", n)
		l := []script.Command{
			script.Write{N: 3, Data: strings.Repeat("old", 32)}, script.Write{N: 2, Data: data}, script.Read{N: 2}, script.Read{Lba: 2, N: 1},
		}
		old := strings.Repeat("old", 32)
		answers(t, example, l, `ok; ok; ok "`+data[:min(n, 64)]+`"; ok "`+old[64:]+`"`)
	}
	for _, lba := range append([]int{1, 47, 48}, far...) {
		for _, n := range append([]int{1, 47, 48}, far...) {
			want := `error 1; error 1; error 1`
			// Not lba + n: at the ends of int that sum would wrap round.
			if lba >= 0 && n >= 1 && lba <= 48 && n <= 48-lba {
				want = `ok; ok "x"; ok`
			}
			answers(t, example, []script.Command{script.Write{Lba: lba, N: n, Data: "x"}, script.Read{Lba: lba, N: n}, script.Trim{Lba: lba, N: n}}, want)
		}
	}
}

// P21.1: rolled scripts: each line is what the device's own calls answer.
func TestRolledLines(t *testing.T) {
	seen := map[string]int{}
	for i, c := range append(configs(), great()...) {
		for seed := range 4 {
			for _, c := range []api.Config{c, flat(c)} {
				r := newRoller(c, seed*100+i, c.Spare+seed%3)
				l := r.script(200)
				lines, e := Play(c, l)
				if e != api.OK || len(lines) != len(l) {
					t.Fatalf("P21.1: %s: %d lines, %d", name(c), len(lines), e)
				}
				d, _ := dev.Format(c)
				for k, x := range l {
					want := plainLine(d, x)
					if lines[k] != want {
						t.Fatalf("P21.1: %s, seed %d: command %d, %T%v: %q, want %q", name(c), seed, k, x, x, lines[k], want)
					}
					word, rest, _ := strings.Cut(want, " ")
					if word == "error" {
						word = want
					} else if rest == "" || rest == `""` {
						word = strings.TrimSpace(word + " " + rest)
					}
					seen[word]++
				}
			}
		}
	}
	for _, w := range []string{"ok", `ok ""`, "show", "stat", "off", "none", "error 1", "error 7", "error 13"} {
		if seen[w] == 0 {
			t.Errorf("the rolled scripts have no %s: %v", w, seen)
		}
	}
}

// P21.1: without cuts each Read tells what the last writes said, by an array of
// bytes that the test keeps.
func TestReadsTellWrites(t *testing.T) {
	for i, c := range configs() {
		bytes := make([]byte, 32*c.Capacity)
		var l []script.Command
		var want []string
		r := newRoller(c, 7+i, 0)
		for range 300 {
			switch x := r.change().(type) {
			case script.Write:
				part := bytes[32*x.Lba : 32*(x.Lba+x.N)]
				clear(part)
				copy(part, x.Data)
				l = append(l, x, script.Read{Lba: x.Lba, N: x.N})
				want = append(want, "ok")
			case script.Trim:
				clear(bytes[32*x.Lba : 32*(x.Lba+x.N)])
				l = append(l, x, script.Read{Lba: 0, N: c.Capacity})
				want = append(want, "ok")
			}
			read := l[len(l)-1].(script.Read)
			s := string(bytes[32*read.Lba : 32*(read.Lba+read.N)])
			want = append(want, "ok "+quote.Quote(strings.TrimRight(s, "\x00")))
		}
		lines, e := Play(c, l)
		if e != api.OK || !slices.Equal(lines, want) {
			t.Errorf("P21.1: %s: %d lines, %d", name(c), len(lines), e)
		}
	}
}

// P21.1, R5: each Play is on a new device.
func TestNewDevice(t *testing.T) {
	l := parse(t, `read 0 1|stat|fail 0|write 0 1 "x"|cut 0|trim 0 1|show`)
	for range 3 {
		answers(t, example, l, `ok ""; stat 0 0; ok; ok; ok; error 7; off`)
	}
	for i, c := range configs() {
		l := newRoller(c, i, c.Spare).script(150)
		first, _ := Play(c, l)
		again, _ := Play(c, l)
		if !slices.Equal(first, again) {
			t.Errorf("R5: %s: the same script is answered otherwise", name(c))
		}
	}
}

// P21.1: EARG, ELIMIT, each by itself and together; R2.
func TestRefused(t *testing.T) {
	spoil := []func(c *api.Config, v int){
		func(c *api.Config, v int) { c.Blocks = v }, func(c *api.Config, v int) { c.Pages = v },
		func(c *api.Config, v int) { c.Capacity = v }, func(c *api.Config, v int) { c.Spare = v },
		func(c *api.Config, v int) { c.MaxRuns = v }, func(c *api.Config, v int) { c.Window = v },
	}
	full := slices.Repeat([]script.Command{script.Show{}}, api.MaxLines)
	over := append(slices.Clone(full), nil)
	for _, l := range [][]script.Command{nil, {}, {script.Show{}}, {nil}, full, over, slices.Repeat(over, 3)} {
		want := api.OK
		if len(l) > api.MaxLines {
			want = api.ELIMIT
		}
		for _, c := range []api.Config{example, flat(example)} {
			refuses(t, c, l, want)
			for _, f := range spoil {
				for _, v := range []int{math.MinInt, -1, 1000, math.MaxInt} {
					bad := c
					f(&bad, v)
					refuses(t, bad, l, api.EARG)
				}
			}
		}
		for _, bad := range []api.Config{{}, {Blocks: 40, Pages: 8, Capacity: 48, Spare: 2, MaxRuns: 45, Window: 8}, {Blocks: 40, Pages: 8, Capacity: 49, Spare: 2, MaxRuns: 48, Window: 8}, {Blocks: 40, Pages: 8, Capacity: 48, Spare: 2, MaxRuns: 48, Window: 9}} {
			refuses(t, bad, l, api.EARG)
		}
	}
}

// refuses holds the error of all three calls; the rest of what they answer is zero
// with an error, and the right thing of commands that do nothing without one.
func refuses(t *testing.T, c api.Config, l []script.Command, want api.Errno) {
	t.Helper()
	lines, e := Play(c, l)
	r, ok, f := Judge(c, l)
	n, g := Both(c, l)
	if e != want || f != want || g != want {
		t.Errorf("P21.1: %v, %d commands: %d, %d, %d, want %d", c, len(l), e, f, g, want)
	}
	if want != api.OK && (len(lines) != 0 || ok || n != 0) || r != (Report{}) {
		t.Errorf("R2: %v, %d commands: %d lines, %v, %v, %d", c, len(l), len(lines), r, ok, n)
	}
	if want == api.OK && (len(lines) != len(l) || !ok || n != -1) {
		t.Errorf("P21.1: %v, %d commands: %d lines, %v, %d", c, len(l), len(lines), ok, n)
	}
}

// P21.1: just MaxLines commands are played to the last one.
func TestMaxLines(t *testing.T) {
	l := newRoller(example, 5, 2).script(api.MaxLines - 1)
	l = append(l, script.Read{Lba: 48, N: 1})
	for _, c := range []api.Config{example, flat(example)} {
		lines, e := Play(c, l)
		if len(lines) != api.MaxLines || e != api.OK || lines[api.MaxLines-1] != "error 1" {
			t.Errorf("P21.1: MaxLines commands: %d lines, %d", len(lines), e)
		}
		holds(t, c, l)
	}
}

// R4: what is handed in stays as it was, spare room too; what is answered is new.
func TestMemory(t *testing.T) {
	for i, c := range []api.Config{example, flat(example), fitted(40, 4, 4, 4)} {
		r := newRoller(c, 40+i, c.Spare+1)
		given := append(r.script(120), script.Show{}, other{}, script.Cut{K: 9}, nil)
		was := slices.Clone(given)
		l := given[:len(given)-4]
		lines, _ := Play(c, l)
		kept := slices.Clone(lines)
		Judge(c, l)
		Both(c, l)
		if !slices.Equal(given, was) {
			t.Errorf("R4: the commands that were handed in are others now")
		}
		more, _ := Play(c, l)
		clear(lines[:cap(lines)])
		clear(l)
		if !slices.Equal(more, kept) {
			t.Errorf("R4: two answers share memory")
		}
	}
}
