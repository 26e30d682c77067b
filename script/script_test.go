package script_test

import (
	"math"
	"slices"
	"strings"
	"sync"
	"testing"
	"unsafe"

	"ferrule/api"
	"ferrule/script"
)

// The calls and types are fixed by chapter 20.
var (
	_ func(string) ([]script.Command, int, api.Errno) = script.Parse
	_ func([]script.Command) string                   = script.Print
	_ func(string) (string, string)                   = script.Word
	_ interface{ Text() string }                      = script.Command(nil)
)

// The examples of chapter 20.
func TestExamples(t *testing.T) {
	parses(t, "a write", `write 3 2 "ab\n"`, []script.Command{script.Write{Lba: 3, N: 2, Data: "ab\n"}}, 0, api.OK)
	parses(t, "a part too few", "read 1", nil, 1, api.ESYNTAX)
	parses(t, "a remark ahead", "# x\nmount 5", []script.Command{script.Mount{K: 5}}, 0, api.OK)
	parses(t, "a text not closed", `write 0 1 "a`, nil, 1, api.ESYNTAX)
	parses(t, "a part too many", "trim 1 2 3", nil, 1, api.ESYNTAX)
	tells(t, script.Mount{K: -1}, "mount")
	tells(t, script.Mount{K: -2}, "mount -2")
	tells(t, script.Write{N: 1, Data: "\xff"}, `write 0 1 "\xff"`)
}

// tells holds a command's Text, and Print of it, against what they should answer.
func tells(t *testing.T, c script.Command, want string) {
	t.Helper()
	if s := c.Text(); s != want {
		t.Fatalf("P20.3: Text of %.300v: %.300q, want %.300q", c, s, want)
	}
	if s := script.Print([]script.Command{c}); s != want+"\n" {
		t.Fatalf("P20.3: Print of %.300v: %.300q, want %.300q", c, s, want+"\n")
	}
}

// P20.3: numbers are told as R7 says, however many digits they have.
func TestNumbersTold(t *testing.T) {
	for _, x := range []struct {
		v    int
		told string
	}{
		{0, "0"}, {1, "1"}, {-2, "-2"}, {10, "10"}, {-100, "-100"}, {999999999, "999999999"}, {-999999999, "-999999999"},
		{1000000000, "1000000000"}, {-1000000000, "-1000000000"}, {1 << 31, "2147483648"}, {-1 << 31, "-2147483648"}, {1 << 32, "4294967296"},
		{math.MaxInt, "9223372036854775807"}, {math.MinInt, "-9223372036854775808"},
	} {
		told := []script.Command{
			script.Read{Lba: x.v, N: 7}, script.Read{Lba: 7, N: x.v}, script.Write{Lba: x.v, N: 7, Data: "a"}, script.Write{Lba: 7, N: x.v, Data: "a"},
			script.Trim{Lba: x.v, N: 7}, script.Trim{Lba: 7, N: x.v}, script.Cut{K: x.v}, script.Fail{K: x.v}, script.Mount{K: x.v},
		}
		for i, form := range []string{"read ? 7", "read 7 ?", `write ? 7 "a"`, `write 7 ? "a"`, "trim ? 7", "trim 7 ?", "cut ?", "fail ?", "mount ?"} {
			line := strings.Replace(form, "?", x.told, 1)
			tells(t, told[i], line)
			if len(strings.TrimPrefix(x.told, "-")) > 9 {
				parses(t, "more than nine digits", line, nil, 1, api.ESYNTAX)
			} else {
				parses(t, "up to nine digits", line, told[i:i+1], 0, api.OK)
			}
		}
	}
	tells(t, script.Read{Lba: -1, N: -1}, "read -1 -1")
	tells(t, script.Cut{K: -1}, "cut -1")
	tells(t, script.Fail{K: -1}, "fail -1")
	tells(t, script.Show{}, "show")
	tells(t, script.Stat{}, "stat")
}

// P20.2: numbers are read with noughts ahead, too, and with a - ahead of 0.
func TestNumbersRead(t *testing.T) {
	for word, v := range map[string]int{"0": 0, "-0": 0, "00": 0, "000000000": 0, "-000000000": 0, "007": 7, "-000000007": -7, "000000010": 10, "123456789": 123456789} {
		parses(t, "a number", "cut "+word, []script.Command{script.Cut{K: v}}, 0, api.OK)
		parses(t, "a number", "mount "+word, []script.Command{script.Mount{K: v}}, 0, api.OK)
		parses(t, "two numbers", "read "+word+" "+word, []script.Command{script.Read{Lba: v, N: v}}, 0, api.OK)
	}
	parses(t, "a mount", "mount -1\nmount\nmount -01\n", []script.Command{script.Mount{K: -1}, script.Mount{K: -1}, script.Mount{K: -1}}, 0, api.OK)
}

// P20.3, P20.4: commands of each type, told and read back.
func TestToldAndRead(t *testing.T) {
	d := &dice{1}
	for range 20000 {
		c := d.command()
		tells(t, c, plainText(c))
		parses(t, "P20.4, one", c.Text(), []script.Command{c}, 0, api.OK)
	}
	for range 3000 {
		l := d.commands(d.roll(40))
		want := ""
		for _, c := range l {
			want += plainText(c) + "\n"
		}
		if s := script.Print(l); s != want {
			t.Fatalf("P20.3: Print of %.300v: %.300q, want %.300q", l, s, want)
		}
		if len(want) <= api.MaxText {
			parses(t, "P20.4, several", want, l, 0, api.OK)
			parses(t, "P20.4, the last line not ended", strings.TrimSuffix(want, "\n"), l, 0, api.OK)
		}
	}
}

// P20.2, P20.4: texts of each byte, and of each two of some.
func TestTexts(t *testing.T) {
	hold := func(s string) {
		c := script.Write{Lba: 1, N: 2, Data: s}
		tells(t, c, "write 1 2 "+plainQuote(s))
		parses(t, "P20.4, a text", c.Text(), []script.Command{c}, 0, api.OK)
		alike(t, "a text as it stands", `write 1 2 "`+s+`"`)
	}
	for x := range 256 {
		hold(string([]byte{byte(x)}))
	}
	for _, a := range pieces {
		for _, b := range pieces {
			hold(a + b)
		}
	}
	hold("")
}

// strange is a command of another one's.
type strange string

func (s strange) Text() string { return string(s) }

// P20.3: Print asks for Text alone.
func TestPrint(t *testing.T) {
	if s := script.Print(nil); s != "" {
		t.Errorf("P20.3: Print of nothing: %q", s)
	}
	if s := script.Print([]script.Command{}); s != "" {
		t.Errorf("P20.3: Print of nothing: %q", s)
	}
	l := []script.Command{strange(""), script.Show{}, strange("a\n"), &script.Cut{K: 4}, script.Show{}}
	if s := script.Print(l); s != "\nshow\na\n\ncut 4\nshow\n" {
		t.Errorf("P20.3: Print: %q", s)
	}
	many := slices.Repeat([]script.Command{script.Stat{}}, 5000)
	if s := script.Print(many); s != strings.Repeat("stat\n", 5000) {
		t.Errorf("P20.3: Print of more than may be read has %d bytes", len(s))
	}
}

// word holds Word against what it should answer.
func word(t *testing.T, text, first, rest string) {
	t.Helper()
	if a, b := script.Word(text); a != first || b != rest {
		t.Fatalf("P20.1: Word(%.200q): %.200q, %.200q, want %.200q, %.200q", text, a, b, first, rest)
	}
}

// P20.1
func TestWord(t *testing.T) {
	for _, x := range [][3]string{
		{"", "", ""}, {" ", "", ""}, {"\t \t", "", ""}, {"\n", "", "\n"}, {" \t\n", "", "\n"}, {"\n a", "", "\n a"}, {" \na", "", "\na"},
		{"a", "a", ""}, {"  ab", "ab", ""}, {"ab ", "ab", " "}, {"ab\t\tc", "ab", "\t\tc"}, {"ab\nc d", "ab", "\nc d"}, {"\tab \n", "ab", " \n"},
		{"#x y", "#x", " y"}, {"\r\n", "\r", "\n"}, {"\ra b", "\ra", " b"}, {"\x00 ", "\x00", " "}, {"\v\f\u00a0\u2003\u3000\u2028 x", "\v\f\u00a0\u2003\u3000\u2028", " x"},
		{`"a b"`, `"a`, ` b"`}, {"\xff\xe2\x82 \x80", "\xff\xe2\x82", " \x80"}, {"\u00e9\U0001f600\ufeff\tx", "\u00e9\U0001f600\ufeff", "\tx"},
	} {
		word(t, x[0], x[1], x[2])
	}
	d := &dice{2}
	for range 20000 {
		text := ""
		for range d.roll(9) {
			text += pick(d, []string{" ", "\t", "\n", "a", "b", pick(d, pieces)})
		}
		begun := strings.TrimLeft(text, " \t")
		end := strings.IndexAny(begun+"\n", " \t\n")
		word(t, text, begun[:end], begun[end:])
	}
	long := strings.Repeat("\xe2\u20ac#", 100000)
	word(t, strings.Repeat(" ", 100000)+long+" "+long, long, " "+long)
}

// shares says whether two texts have memory in common.
func shares(a, b string) bool {
	if a == "" || b == "" {
		return false
	}
	x, y := uintptr(unsafe.Pointer(unsafe.StringData(a))), uintptr(unsafe.Pointer(unsafe.StringData(b)))
	return x < y+uintptr(len(b)) && y < x+uintptr(len(a))
}

// R4: what is handed in stays as it was; what is answered is new memory.
func TestMemory(t *testing.T) {
	text := strings.Clone("write 1 2 \"abcdef\" \nstat")
	first, rest := script.Word(text)
	if first != "write" || shares(first, text) || shares(rest, text) || shares(first, rest) {
		t.Errorf("R4: Word's answers share memory")
	}
	l, _, _ := script.Parse(text)
	if w, ok := l[0].(script.Write); !ok || w.Data != "abcdef" || shares(w.Data, text) {
		t.Errorf("R4: Parse's answer shares memory: %v", l)
	}
	other, _, _ := script.Parse(text)
	clear(l[:cap(l)])
	if len(other) != 2 || other[0] != (script.Write{Lba: 1, N: 2, Data: "abcdef"}) || other[1] != (script.Stat{}) {
		t.Errorf("R4: two answers share memory: %v", other)
	}
	room := []script.Command{script.Show{}, script.Cut{K: 1}, strange("spare"), strange("room")}
	was := slices.Clone(room)
	if s := script.Print(room[:2]); s != "show\ncut 1\n" || !slices.Equal(room, was) {
		t.Errorf("R4: Print changes what is handed in: %q, %v", s, room)
	}
	one := []script.Command{script.Write{Data: strings.Clone("abc")}, strange(strings.Clone("def"))}
	if s := script.Print(one[1:]); shares(s, string(one[1].(strange))) {
		t.Errorf("R4: Print's answer shares memory")
	}
}

// R5: what is answered hangs on what is handed in alone.
func TestAnswersHangOnArgumentsAlone(t *testing.T) {
	var all sync.WaitGroup
	for k := range 4 {
		all.Go(func() {
			d := &dice{uint64(k)}
			for range 300 {
				l := d.commands(5)
				script.Parse("read 1\n" + d.text())
				if again, at, e := script.Parse(script.Print(l)); !slices.Equal(again, l) || at != 0 || e != api.OK {
					t.Errorf("R5: %v: %v, %d, %d", l, again, at, e)
					return
				}
			}
		})
	}
	all.Wait()
}
