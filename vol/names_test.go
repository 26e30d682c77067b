package vol

import (
	"strings"
	"testing"
	"unicode/utf8"
)

func wantGood(t *testing.T, name string, want bool) {
	t.Helper()
	if got := Good(name); got != want {
		t.Errorf("P25.1: Good(%.60q): %v", name, got)
	}
}

// P25.1: names of each length in bytes, of runes of each length.
func TestLengthsOfNames(t *testing.T) {
	for _, r := range []string{"a", "\u00e9", "\u20ac", "\U0001f600"} {
		for n := range 40 {
			s := strings.Repeat(r, n)
			wantGood(t, s, len(s) >= 1 && len(s) <= 16)
		}
	}
	for n := range 17 {
		// The last rune begins ahead of the end, and may end behind it.
		for _, r := range []string{"b", "\u00e9", "\u20ac", "\U0001f600"} {
			s := strings.Repeat("a", n) + r
			wantGood(t, s, len(s) <= 16)
			s = r + strings.Repeat("a", n)
			wantGood(t, s, len(s) <= 16)
		}
	}
	wantGood(t, strings.Repeat("a", 1<<20), false)
	wantGood(t, strings.Repeat("a", 255), false)
	wantGood(t, strings.Repeat("a", 256), false)
	wantGood(t, strings.Repeat("a", 257), false)
}

// P25.1: each byte by itself, and at each place of a longer name.
func TestBytesOfNames(t *testing.T) {
	for x := range 256 {
		b := string([]byte{byte(x)})
		want := x >= 33 && x < 127
		wantGood(t, b, want)
		for at := range 8 {
			wantGood(t, "name-abc"[:at]+b+"name-abc"[at:], want)
			wantGood(t, "\u00e9\u00e9\u00e9\u00e9"[:at/2*2]+b+"\u00e9\u00e9\u00e9\u00e9"[at/2*2:], want)
		}
		wantGood(t, "name-abc"+b, want)
	}
}

// P25.1: all texts of two bytes, and of three and four the ones about where runes of
// that length begin and end.
func TestBytesThatAreNoRune(t *testing.T) {
	for x := range 256 {
		for y := range 256 {
			s := string([]byte{byte(x), byte(y)})
			wantGood(t, s, plainGood(s))
		}
	}
	edges := []byte{0, 32, 33, 126, 127, 0x80, 0x8f, 0x90, 0x9f, 0xa0, 0xbd, 0xbf, 0xc0, 0xc1, 0xc2, 0xdf, 0xe0, 0xed, 0xef, 0xf0, 0xf4, 0xf5, 0xff}
	for _, a := range edges {
		for _, b := range edges {
			for _, c := range edges {
				s := string([]byte{a, b, c})
				wantGood(t, s, plainGood(s))
				for _, d := range edges {
					s := string([]byte{a, b, c, d})
					wantGood(t, s, plainGood(s))
				}
			}
		}
	}
}

// P25.1: every rune by itself: those below 33, 127 and no other one may not be; that
// U+FFFD is what range tells of a wrong byte makes no difference.
func TestEachRune(t *testing.T) {
	for r := rune(0); r <= utf8.MaxRune; r++ {
		if !utf8.ValidRune(r) {
			continue
		}
		wantGood(t, string(r), r >= 33 && r != 127)
	}
	wantGood(t, "\ufffd\ufffd", true)
	wantGood(t, "a\ufffd", true)
	wantGood(t, "\ufffda", true)
	wantGood(t, "\ufffd\xff", false)
	wantGood(t, "\xff\ufffd", false)
	wantGood(t, "\xef\xbf", false)
	wantGood(t, "\xef", false)
	wantGood(t, "\xbd\xef\xbf\xbd", false)
	// Halves of a pair, too long forms, beyond the last rune.
	wantGood(t, "\xed\xa0\x80", false)
	wantGood(t, "\xed\xbf\xbf", false)
	wantGood(t, "\xc1\xa1", false)
	wantGood(t, "\xe0\x9f\xbf", false)
	wantGood(t, "\xf0\x8f\xbf\xbf", false)
	wantGood(t, "\xf4\x90\x80\x80", false)
	wantGood(t, "\xf4\x8f\xbf\xbf", true)
}
