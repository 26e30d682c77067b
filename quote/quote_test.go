package quote

import (
	"fmt"
	"math"
	"regexp"
	"strings"
	"sync"
	"testing"
	"unicode/utf8"
	"unsafe"

	"ferrule/api"
)

// The signatures are fixed by chapter 5.
var (
	_ func(string) string                   = Quote
	_ func(string) (string, int, api.Errno) = Read
	_ func(string) (int, int)               = Runes
	_ func(string, int) string              = Cut
)

// wrongs are texts of bytes that are no rune, each byte by itself.
func wrongs() []string {
	l := []string{
		"\xc3", "\xe2\x82", "\xf0\x9f\x98", "\xf0\x9f", // runes that end early
		"\xc0\x80", "\xc1\xbf", "\xe0\x80\x80", "\xe0\x9f\xbf", "\xf0\x80\x80\x80", "\xf0\x8f\xbf\xbf", // in more bytes than they need
		"\xed\xa0\x80", "\xed\xaf\xbf", "\xed\xb0\x80", "\xed\xbf\xbf", "\xed\xa0\xbd\xed\xb8\x80", // halves of pairs, and a pair of them
		"\xf4\x90\x80\x80", "\xf5\x80\x80\x80", "\xf7\xbf\xbf\xbf", // above U+10FFFF
		"\xf8\x88\x80\x80\x80", "\xfc\x84\x80\x80\x80\x80", "\xfe", "\xff", // of five bytes, of six, and what begins none
		"\xef\xbf", "\xbf\xbd", "\xef\xbf\xef\xbf", // the replacement, in part
	}
	for x := 128; x < 256; x++ {
		l = append(l, string([]byte{byte(x)}))
	}
	return l
}

// edges are the runes around which it changes how one is told, or how many
// bytes one has.
func edges() []rune {
	l := []rune{0, 1, 8, 9, 10, 11, 12, 13, 31, 32, 33, 34, 35, 47, 48, 57, 65, 91, 92, 93, 97, 110, 116, 117, 120, 0x7ff, 0x800, 0x1fff, 0xd7fe, 0xd7ff, 0xe000, 0xe001, 0x10000, 0x10001, 0x1f600, 0x1feff, 0x12028, 0x10fffe, 0x10ffff}
	for r := rune(126); r <= 161; r++ {
		l = append(l, r)
	}
	for r := rune(0x2026); r <= 0x202b; r++ {
		l = append(l, r)
	}
	for r := rune(0xfefd); r <= 0xffff; r++ {
		l = append(l, r)
	}
	return l
}

// pieces are runes and bytes that are none, of which texts are put together.
func pieces() []string {
	return []string{"a", "\"", "\\", "\n", "\t", "\x00", "\r", "\x7f", "0", "x", "u", "\u0085", "\u00e9", "\u2028", "\u20ac", "\ufeff", "\ufffd", "\U0001f600", "\x80", "\xa9", "\xbf", "\xc3", "\xe2", "\xed", "\xef", "\xf0", "\xf4", "\xff"}
}

// strung hands all texts of so many pieces to see.
func strung(pieces []string, count int, see func(string)) {
	if count == 0 {
		see("")
		return
	}
	strung(pieces, count-1, func(s string) {
		for _, p := range pieces {
			see(s + p)
		}
	})
}

// walk hands out numbers below a bound that hang on a seed alone.
func walk(seed uint64) func(int) int {
	return func(bound int) int {
		seed = seed*6364136223846793005 + 1442695040888963407
		return int(seed>>33) % bound
	}
}

// texts hands many texts to see: all of up to three pieces, longer ones.
func texts(see func(string)) {
	for count := range 4 {
		strung(pieces(), count, see)
	}
	next := walk(5)
	for i := range 3000 {
		var s strings.Builder
		for range 4 + i%40 {
			if p := pieces(); next(3) > 0 {
				s.WriteString(p[next(len(p))])
			} else {
				s.WriteByte(byte(next(256)))
			}
		}
		see(s.String())
	}
}

// part is a rune that is well formed, or one byte that is none.
type part struct {
	r     rune // -1: a byte that is none
	bytes string
}

// rowBits are what the first byte of a rune of two, three, four bytes has
// ahead of its bits, and the least rune of so many bytes.
var rowBits = []struct {
	size        int
	mask, first byte
	least       rune
}{{1, 0x80, 0, 0}, {2, 0xe0, 0xc0, 0x80}, {3, 0xf0, 0xe0, 0x800}, {4, 0xf8, 0xf0, 0x10000}}

// firstPart finds what a text that is not empty begins with, by the rules of
// UTF-8, worked out bit by bit.
func firstPart(s string) part {
	for _, row := range rowBits {
		if s[0]&row.mask != row.first || len(s) < row.size {
			continue
		}
		r, ok := rune(s[0]&^row.mask), true
		for _, x := range []byte(s[1:row.size]) {
			r, ok = r<<6|rune(x&0x3f), ok && x&0xc0 == 0x80
		}
		if ok && r >= row.least && r <= 0x10ffff && (r < 0xd800 || r > 0xdfff) {
			return part{r, s[:row.size]}
		}
	}
	return part{-1, s[:1]}
}

// parts are what s is made of.
func parts(s string) []part {
	var l []part
	for s != "" {
		p := firstPart(s)
		l, s = append(l, p), s[len(p.bytes):]
	}
	return l
}

// toldPart tells a part by chapter 5's words.
func toldPart(p part) string {
	switch r := p.r; {
	case r == -1:
		return fmt.Sprintf(`\x%02x`, p.bytes[0])
	case r == '"' || r == '\\':
		return `\` + string(r)
	case r == 10:
		return `\n`
	case r == 9:
		return `\t`
	case r == 0:
		return `\0`
	case r < 32 || r == 127:
		return fmt.Sprintf(`\x%02x`, r)
	case 128 <= r && r <= 159, r == 0x2028, r == 0x2029, r == 0xfeff:
		return fmt.Sprintf(`\u%04x`, r)
	}
	return p.bytes
}

// told tells s by chapter 5's words.
func told(s string) string {
	var b strings.Builder
	b.WriteString(`"`)
	for _, p := range parts(s) {
		b.WriteString(toldPart(p))
	}
	return b.String() + `"`
}

// form is how a told text looks, but for bytes by \x that together are a rune.
var form = regexp.MustCompile(`^"(?:\\["\\nt0]|\\x(?:0[1-8bcdef]|1[0-9a-f]|7f|[89a-f][0-9a-f])|\\u(?:00[89][0-9a-f]|202[89]|feff)|[^\x00-\x1f"\\\x7f\x{80}-\x{9f}\x{2028}\x{2029}\x{feff}])*"`)

// high is a byte from 128 on, told by \x; escape is one told by a \.
var (
	high   = regexp.MustCompile(`(?:\\x[89a-f][0-9a-f])+`)
	escape = regexp.MustCompile(`\\(?:x..|u....|.)`)
)

// asRead reads a text by chapter 5's words: its form is asked for as a whole.
func asRead(text string) (s string, n int, ok bool) {
	n = len(form.FindString(text))
	if n == 0 || !utf8.ValidString(text[:n]) {
		return "", 0, false
	}
	ok = true
	s = escape.ReplaceAllStringFunc(text[1:n-1], func(x string) string {
		var v int
		switch x[1] {
		case 'x':
			fmt.Sscanf(x[2:], "%x", &v)
			return string([]byte{byte(v)})
		case 'u':
			fmt.Sscanf(x[2:], "%x", &v)
			return string(rune(v))
		}
		return strings.NewReplacer("n", "\n", "t", "\t", "0", "\x00").Replace(x[1:])
	})
	// A \ that is told may stand ahead of what looks like \x: it is taken away first.
	bare := strings.ReplaceAll(text[1:n-1], `\\`, " ")
	for _, row := range high.FindAllString(bare, -1) {
		var b []byte
		fmt.Sscanf(strings.ReplaceAll(row, `\x`, ""), "%x", &b)
		for _, p := range parts(string(b)) {
			ok = ok && p.r == -1
		}
	}
	if !ok {
		return "", 0, false
	}
	return s, n, true
}

// The helpers end a test at its first fault: it goes through so much that all
// of its faults would be too many to tell.

// refused holds Read of a text that Quote does not tell against ESYNTAX, and
// what stands beside it against nothing.
func refused(t *testing.T, what, text string) {
	t.Helper()
	if s, n, e := Read(text); s != "" || n != 0 || e != api.ESYNTAX {
		t.Fatalf("P5.1, R2: %s: Read(%.200q): %.200q, %d, %d; want nothing, 0, ESYNTAX", what, text, s, n, e)
	}
}

// reads holds Read of a text against what it tells, and in how many bytes.
func reads(t *testing.T, text, s string, n int) {
	t.Helper()
	if got, m, e := Read(text); got != s || m != n || e != api.OK {
		t.Fatalf("P5.1: Read(%.200q): %.200q, %d, %d; want %.200q, %d, OK", text, got, m, e, s, n)
	}
}

// tells holds Quote of s against how it is told, and Read of that against s.
func tells(t *testing.T, s, want string) {
	t.Helper()
	if got := Quote(s); got != want {
		t.Fatalf("P5.1: Quote(%.200q): %.200s; want %.200s", s, got, want)
	}
	reads(t, want, s, len(want))
}

// counts holds Runes of s against both numbers.
func counts(t *testing.T, s string, runes, wrong int) {
	t.Helper()
	if a, b := Runes(s); a != runes || b != wrong {
		t.Fatalf("P5.2: Runes(%.200q): %d, %d; want %d, %d", s, a, b, runes, wrong)
	}
}

// cuts holds Cut of s at n against what is left.
func cuts(t *testing.T, s string, n int, want string) {
	t.Helper()
	if got := Cut(s, n); got != want {
		t.Fatalf("P5.2: Cut(%.200q, %d): %.200q; want %.200q", s, n, got, want)
	}
}

func TestExamples(t *testing.T) {
	tells(t, `a"b`, `"a\"b"`)
	tells(t, "\xff\x0a", `"\xff\n"`)
	tells(t, "\u00e9", "\"\u00e9\"")
	tells(t, "\u0085", `"\u0085"`)
	tells(t, "", `""`)
	refused(t, "A is told as it is", `"a\x41"`)
	reads(t, `"a" b`, "a", 3)
	refused(t, "no end", `"a`)
	refused(t, "no beginning", `a`)
	counts(t, string([]byte{97, 195, 169, 255, 195}), 2, 2)
	cuts(t, string([]byte{97, 195, 169}), 2, "a")
	cuts(t, string([]byte{97, 195, 169}), 3, string([]byte{97, 195, 169}))
	cuts(t, string([]byte{97, 195}), 2, string([]byte{97, 195}))
}

func TestQuoteTellsEachByte(t *testing.T) {
	for x := range 256 {
		s := string([]byte{byte(x)})
		want := `"` + s + `"`
		switch {
		case x == 0:
			want = `"\0"`
		case x == 9:
			want = `"\t"`
		case x == 10:
			want = `"\n"`
		case x == 34:
			want = `"\""`
		case x == 92:
			want = `"\\"`
		case x < 32 || x >= 127:
			want = fmt.Sprintf(`"\x%02x"`, x)
		}
		tells(t, s, want)
	}
}

func TestQuoteTellsEachRune(t *testing.T) {
	asIs, byU := 0, 0
	for r := rune(0); r <= 0x10ffff; r++ {
		if r >= 0xd800 && r <= 0xdfff {
			continue
		}
		s := string(r)
		want := told(s)
		tells(t, s, want)
		switch {
		case want == `"`+s+`"`:
			asIs++
		case strings.HasPrefix(want, `"\u`):
			byU++
		}
	}
	// 0x110000 numbers, 2048 halves, 32 below 32, `"`, `\`, 127, and 35 by \u.
	if asIs != 0x110000-2048-32-3-35 || byU != 35 {
		t.Errorf("P5.1: %d runes are told as they are, %d by \\u", asIs, byU)
	}
}

func TestQuoteTellsEdges(t *testing.T) {
	for s, want := range map[string]string{
		"\x01\x08\x0b\x0c\x0d\x1f": `"\x01\x08\x0b\x0c\x0d\x1f"`,
		" !#[]~":                   `" !#[]~"`,
		"~\x7f\u0080\u009f\u00a0":  "\"~\\x7f\\u0080\\u009f\u00a0\"",
		"\u07ff\u0800":             "\"\u07ff\u0800\"",
		"\u2027\u2028\u2029\u202a": "\"\u2027\\u2028\\u2029\u202a\"",
		"\ud7ff\ue000":             "\"\ud7ff\ue000\"",
		"\ufefe\ufeff\uff00":       "\"\ufefe\\ufeff\uff00\"",
		"\ufffc\ufffd\ufffe\uffff": "\"\ufffc\ufffd\ufffe\uffff\"",
		"\U00010000\U0010ffff":     "\"\U00010000\U0010ffff\"",
		"\U00012028\U0001feff":     "\"\U00012028\U0001feff\"",
		"\\x41":                    `"\\x41"`,
		"\\n\n":                    `"\\n\n"`,
		"\x0041":                   `"\041"`,
		"\xc2\u0085\x85":           `"\xc2\u0085\x85"`,
	} {
		tells(t, s, want)
	}
	for _, a := range edges() {
		for _, b := range []rune{0, 'a', '"', '\\', '8', 0x85, 0xe9, 0x2028, 0xfffd, 0x1f600} {
			s := string(a) + string(b)
			tells(t, s, told(s))
			s = string(b) + string(a)
			tells(t, s, told(s))
		}
	}
}

func TestQuoteTellsBytesThatAreNone(t *testing.T) {
	for _, w := range wrongs() {
		each := ""
		for _, x := range []byte(w) {
			each += fmt.Sprintf(`\x%02x`, x)
		}
		tells(t, w, `"`+each+`"`)
		for _, r := range []string{"a", "\u00e9", "\u20ac", "\U0001f600", "\ufffd"} {
			tells(t, r+w, `"`+r+each+`"`)
			tells(t, w+r, `"`+each+r+`"`)
			tells(t, w+r+w, `"`+each+r+each+`"`)
		}
		tells(t, w+"\u0085", `"`+each+`\u0085"`)
		tells(t, w+"\"", `"`+each+`\""`)
	}
	tells(t, "\xc3\xc3\xa9", "\"\\xc3\u00e9\"")
	tells(t, "\xc3\xa9\xa9", "\"\u00e9\\xa9\"")
	tells(t, "\xe2\x82\xc3\xa9", "\"\\xe2\\x82\u00e9\"")
	tells(t, "\xf0\x9f\xe2\x82\xac", "\"\\xf0\\x9f\u20ac\"")
	tells(t, "\xef\xbf\xbd\xef\xbf", "\"\ufffd\\xef\\xbf\"")
}

func TestQuoteTellsByTheWords(t *testing.T) {
	texts(func(s string) { tells(t, s, told(s)) })
}

func TestReadStopsAtTheEnd(t *testing.T) {
	for _, s := range []string{"", "a", "\"", "\\", "\xff", "\u00e9", "\n", "\\\"", "\xe2\x82", "\u2028"} {
		q := told(s)
		for x := range 256 {
			reads(t, q+string([]byte{byte(x)}), s, len(q))
			reads(t, q+string([]byte{byte(x), 'a', '"'}), s, len(q))
		}
		for _, behind := range []string{`""`, `"a"`, `\`, `\x`, " b", "\xac", "\xff\xfe", "\u0085", "\n\n", "\x00", strings.Repeat("\"", 1000)} {
			reads(t, q+behind, s, len(q))
		}
	}
	reads(t, `"\\"a"`, `\`, 4)
	reads(t, `"\\\"a"`, `\"a`, 7)
	reads(t, `"\\\\"a"`, `\\`, 6)
}

func TestReadRefusesOtherWays(t *testing.T) {
	for x := range 256 {
		s := string([]byte{byte(x)})
		byX := fmt.Sprintf(`"\x%02x"`, x)
		if byX != told(s) {
			refused(t, "not told by \\x", byX)
		}
		if asIs := `"` + s + `"`; asIs != told(s) && x != '"' {
			refused(t, "not told as it is", asIs)
		}
		if !strings.Contains(`"\nt0xu`, s) {
			refused(t, "a \\ ahead", `"\`+s+`"`)
			refused(t, "a \\ ahead, digits behind", `"\`+s+`0041"`)
		}
		if x != '"' {
			refused(t, "another byte ahead", s+`"a"`)
		}
	}
	for r := rune(0); r <= 0xffff; r++ {
		if byU := fmt.Sprintf(`"\u%04x"`, r); byU != told(string(r)) {
			refused(t, "not told by \\u", byU)
		}
	}
	for _, r := range edges() {
		if asIs := `"a` + string(r) + `a"`; asIs != told(asIs[1:len(asIs)-1]) && r != '"' {
			refused(t, "not told as it is", asIs)
		}
	}
	for _, text := range []string{`"\xFF"`, `"\xfF"`, `"\xFf"`, `"\x1F"`, `"\x7F"`, `"\u008A"`, `"\u009F"`, `"\uFEFF"`, `"\ufefF"`, `"\X1f"`, `"\U0085"`, `"\N"`, `"\T"`, `"\a"`, `"\r"`, `"\'"`, `"\/"`, `"\u{85}"`, `"\U00000085"`, `"\177"`, `"\x+f"`, `"\x-1"`, `"\x_f"`, `"\xf_"`, `"\u0_85"`, `"\u 085"`, `"\x 1"`, `"\x0x"`} {
		refused(t, "not a way of Quote's", text)
	}
	for x := range 256 {
		if s := string([]byte{byte(x)}); !strings.Contains("0123456789abcdef", s) {
			refused(t, "no digit", `"\x1`+s+`"`)
			refused(t, "no digit", `"\x`+s+`1"`)
			refused(t, "no digit", `"\u008`+s+`"`)
			refused(t, "no digit", `"\u`+s+`085"`)
		}
	}
}

func TestReadRefusesTooLittle(t *testing.T) {
	for _, text := range []string{"", `"`, `"a`, `"\`, `"\"`, `"\\\"`, `"\x`, `"\x"`, `"\x1`, `"\x1"`, `"\xf`, `"\xf"`, `"\x1f`, `"\u`, `"\u"`, `"\u0`, `"\u0"`, `"\u00"`, `"\u008`, `"\u008"`, `"\u202"`, `"\u0085`, `"\n`, `"\u008"5"`, `"\x1"f"`, "a", `a"`, ` "a"`, "\n\"\"", `'a'`, "`a`", `\"a"`, "\xff\"a\"", "\ufeff\"a\""} {
		refused(t, "too little, or no beginning", text)
	}
	texts(func(s string) {
		q := told(s)
		for n := range len(q) {
			refused(t, "cut short", q[:n])
		}
	})
}

func TestReadRefusesBytesWithin(t *testing.T) {
	refused(t, "byte 10", "\"a\nb\"")
	refused(t, "byte 10 at the end", "\"a\n\"")
	refused(t, "bytes 13 and 10", "\"a\r\n\"")
	refused(t, "byte 0", "\"\x00\"")
	for _, w := range wrongs() {
		for _, text := range []string{w, "a" + w, w + "a", "\u00e9" + w, w + "\u00e9", w + `\xff`, w + `\ufeff`, "\ufffd" + w, w + "\ufffd"} {
			refused(t, "a byte that is no rune", `"`+text+`"`)
		}
		refused(t, "a byte that is no rune, no end", `"`+w)
		refused(t, "a byte that is no rune ahead", w+`""`)
	}
}

func TestReadRefusesRunesByBytes(t *testing.T) {
	for _, r := range append(edges(), 0x80, 0xe9, 0x20ac, 0x1f600) {
		each := ""
		for _, x := range []byte(string(r)) {
			each += fmt.Sprintf(`\x%02x`, x)
		}
		if r < 128 {
			continue
		}
		for _, text := range []string{each, "a" + each + "a", `\xff` + each, each + `\x80`, `\xe2\x82` + each, "\u00e9" + each + "\u00e9", `\n` + each + `\\`} {
			refused(t, "bytes that together are a rune", `"`+text+`"`)
		}
		// One byte of it told so, the others as they are.
		refused(t, "half of a rune", `"`+each[:4]+string(r)[1:]+`"`)
		// Apart they are no rune.
		apart := each[:4] + "a" + each[4:]
		reads(t, `"`+apart+`"`, string(r)[:1]+"a"+string(r)[1:], len(apart)+2)
	}
}

func TestReadByTheWords(t *testing.T) {
	hold := func(text string) {
		if s, n, ok := asRead(text); ok {
			reads(t, text, s, n)
		} else {
			refused(t, "by the words", text)
		}
	}
	letters := []string{"\"", "\\", "x", "u", "0", "8", "c", "3", "\u00e9", "\u0085", "\n", "\xc3"}
	for count := range 6 {
		strung(letters, count, func(s string) { hold("\"" + s) })
	}
	strung(letters, 4, hold)
	told := []string{`\x80`, `\xa9`, `\xbf`, `\xc3`, `\xe2`, `\xed`, `\xf0`, `\xf4`, `\x0c`, `\u0085`, `\\`, "a", "\u20ac"}
	for count := range 5 {
		strung(told, count, func(s string) { hold(`"` + s + `"`) })
	}
	// All that may stand behind \x and behind \u, and its neighbours.
	digits := []string{"0", "1", "2", "7", "8", "9", "a", "d", "e", "f", "A", "F", "g", "/", ":", "`", "@", "\"", "\u00e9"}
	strung(digits, 2, func(s string) { hold(`"\x` + s + `"`) })
	strung(digits, 4, func(s string) { hold(`"\u` + s + `"`) })
}

func TestReadTakesNothingElse(t *testing.T) {
	// One byte of a told text changed, left out, or put in: what is still read
	// is told so by Quote.
	next := walk(51)
	kinds := []byte("\"\\xunt0189afA\n\t\x00\x7f\x80\xa9\xc3\xe2\xff")
	left := 4000
	texts(func(s string) {
		if left == 0 || next(6) > 0 {
			return
		}
		left--
		q := []byte(told(s))
		for range 8 {
			at, x := next(len(q)), kinds[next(len(kinds))]
			changed := append([]byte{}, q...)
			changed[at] = x
			for _, text := range []string{string(changed), string(q[:at]) + string(q[at+1:]), string(q[:at]) + string(x) + string(q[at:])} {
				if got, n, ok := asRead(text); ok {
					reads(t, text, got, n)
				} else {
					refused(t, "one byte off", text)
				}
			}
		}
	})
	if left > 0 {
		t.Errorf("too few texts: %d are left", left)
	}
}

func TestRunes(t *testing.T) {
	counts(t, "", 0, 0)
	counts(t, "abc", 3, 0)
	counts(t, "a\u00e9\u20ac\U0001f600", 4, 0)
	counts(t, "\ufffd", 1, 0)
	counts(t, "\ufffd\xef\xbf\ufffd\xbd", 2, 3)
	counts(t, "\xed\xa0\x80", 0, 3)
	counts(t, "\xf4\x90\x80\x80\U0010ffff", 1, 4)
	counts(t, "\xc3\xc3\xa9", 1, 1)
	counts(t, "\x00\n\"\\\x7f\u0085\u2028\ufeff", 8, 0)
	for _, w := range wrongs() {
		counts(t, w, 0, len(w))
		counts(t, "\u20ac"+w+"a", 2, len(w))
	}
	for r := rune(0); r <= 0x10ffff; r++ {
		if r < 0xd800 || r > 0xdfff {
			counts(t, string(r), 1, 0)
		}
	}
	texts(func(s string) {
		runes, wrong := 0, 0
		for _, p := range parts(s) {
			if p.r == -1 {
				wrong++
			} else {
				runes++
			}
		}
		counts(t, s, runes, wrong)
	})
	for n := range 300 {
		counts(t, strings.Repeat("\u00e9", n), n, 0)
		counts(t, strings.Repeat("\xff", n), 0, n)
	}
}

// asCut is Cut by chapter 5's words: of all beginnings with at most n bytes,
// the longest one that ends within no rune.
func asCut(s string, n int) string {
	for end := min(n, len(s)); end > 0; end-- {
		within, at := false, 0
		for _, p := range parts(s) {
			within = within || p.r != -1 && at < end && end < at+len(p.bytes)
			at += len(p.bytes)
		}
		if !within {
			return s[:end]
		}
	}
	return ""
}

func TestCut(t *testing.T) {
	long := "a\u00e9\u20ac\U0001f600\xff\xc3\u00e9\xe2\x82\u20ac\xf0\x9f\x98\U0001f600\xed\xa0\x80\ufffdz\x80\x80"
	for _, s := range []string{"", "a", "abc", "\u00e9", "\u20ac", "\U0001f600", "\ufffd", "\xff", "\xe2\x82", "\xf0\x9f\x98", "\xed\xa0\x80", long, long + long} {
		for n := -5; n <= len(s)+5; n++ {
			cuts(t, s, n, asCut(s, n))
		}
		for _, n := range []int{math.MinInt, math.MinInt + 1, -1000} {
			cuts(t, s, n, "")
		}
		for _, n := range []int{math.MaxInt, math.MaxInt - 1, 1000} {
			cuts(t, s, n, s)
		}
	}
	texts(func(s string) {
		if len(s) <= 40 {
			for n := -1; n <= len(s)+1; n++ {
				cuts(t, s, n, asCut(s, n))
			}
		}
	})
}

func TestCutByHand(t *testing.T) {
	want := []string{"", "a", "a", "a\u00e9", "a\u00e9", "a\u00e9", "a\u00e9\u20ac", "a\u00e9\u20ac", "a\u00e9\u20ac", "a\u00e9\u20ac", "a\u00e9\u20ac\U0001f600", "a\u00e9\u20ac\U0001f600\xf0", "a\u00e9\u20ac\U0001f600\xf0\x9f", "a\u00e9\u20ac\U0001f600\xf0\x9f\x98"}
	for n, w := range want {
		cuts(t, "a\u00e9\u20ac\U0001f600\xf0\x9f\x98", n, w)
	}
	// The bytes that are left are a rune's, but in s they are none.
	cuts(t, "\xe2\x82a", 1, "\xe2")
	cuts(t, "\xe2\x82a", 2, "\xe2\x82")
	// The rune that the first two bytes begin does not stand in s.
	cuts(t, "\xf0\x9f\u00e9", 3, "\xf0\x9f")
	cuts(t, "\ufffdx", 2, "")
	cuts(t, "\ufffdx", 3, "\ufffd")
}

func TestConsequences(t *testing.T) {
	hold := func(s string) {
		q := Quote(s)
		if strings.Contains(q, "\n") || !utf8.ValidString(q) {
			t.Fatalf("P5.3: Quote(%.200q) = %.200q: byte 10, or not well formed", s, q)
		}
		for _, behind := range []string{"", `"`, `\"`, "\n", "\x80", "\xc3", "\u00e9", q, `x"`} {
			if got, n, e := Read(q + behind); got != s || n != len(q) || e != api.OK {
				t.Fatalf("P5.3: Read of Quote(%.200q) and %.200q behind it: %.200q, %d, %d", s, behind, got, n, e)
			}
		}
	}
	texts(hold)
	for a := range 256 {
		hold(string([]byte{byte(a)}))
		for b := range 256 {
			hold(string([]byte{byte(a), byte(b)}))
		}
	}
	for _, w := range wrongs() {
		hold(w + w)
	}
	for _, r := range edges() {
		hold(string(r))
	}
	hold(strings.Repeat("\xff\n\"\u0085\U0001f600", 20000))
}

func TestLong(t *testing.T) {
	const n = 1 << 20
	tells(t, strings.Repeat("a", n), `"`+strings.Repeat("a", n)+`"`)
	tells(t, strings.Repeat("\xff", n), `"`+strings.Repeat(`\xff`, n)+`"`)
	tells(t, strings.Repeat("\\", n), `"`+strings.Repeat(`\\`, n)+`"`)
	reads(t, `"a"`+strings.Repeat("\xff", n), "a", 3)
	refused(t, "no end", `"`+strings.Repeat("a", n))
	refused(t, "no end", `"`+strings.Repeat(`\"`, n))
	counts(t, strings.Repeat("\u20ac\xe2\x82", n), n, 2*n)
	cuts(t, strings.Repeat("\u20ac", n), 3*n-1, strings.Repeat("\u20ac", n-1))
}

// shares says whether two texts have memory in common.
func shares(a, b string) bool {
	if a == "" || b == "" {
		return false
	}
	x, y := uintptr(unsafe.Pointer(unsafe.StringData(a))), uintptr(unsafe.Pointer(unsafe.StringData(b)))
	return x < y+uintptr(len(b)) && y < x+uintptr(len(a))
}

func TestAnswersAreNewMemory(t *testing.T) {
	long := strings.Repeat("ab\u00e9", 20)
	for _, s := range []string{"a", long} {
		if shares(Quote(s), s) {
			t.Errorf("R4: Quote's answer is memory of what was handed in")
		}
	}
	text := strings.Clone(`"` + long + `" behind`)
	if s, _, e := Read(text); e != api.OK || s != long || shares(s, text) {
		t.Errorf("R4: Read's answer is memory of what was handed in")
	}
	for n := range len(long) + 3 {
		if shares(Cut(long, n), long) {
			t.Fatalf("R4: Cut's answer at %d is memory of what was handed in", n)
		}
	}
}

func TestAnswersHangOnArgumentsAlone(t *testing.T) {
	var l []string
	for _, w := range wrongs() {
		l = append(l, w, "\u00e9"+w, told(w), told(w)[1:])
	}
	var all sync.WaitGroup
	for k := range 4 {
		all.Go(func() {
			for i := range l {
				s := l[(i*(2*k+1))%len(l)]
				q := Quote(s)
				if got, n, e := Read(q); q != told(s) || got != s || n != len(q) || e != api.OK {
					t.Errorf("R5: Quote(%.200q): %.200q; Read of it: %.200q, %d, %d", s, q, got, n, e)
					return
				}
			}
		})
	}
	all.Wait()
	if a, b := Quote("\xff"), Quote("\xff"); a != b {
		t.Errorf("R5: Quote answers otherwise a second time")
	}
}
