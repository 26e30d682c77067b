package disk

import (
	"math"
	"slices"
	"strings"
	"testing"

	"ferrule/api"
)

// texts are what a range of n sectors may be filled with: of one byte, of several, as
// long as the range, shorter and longer by one and by more.
func texts(n int) []string {
	d := dice{uint64(n)}
	l := []string{
		"\x00", "x", "\xff", "ab", "abc", "\x00\x00", "\x00a", "a\x00", "ab\x00", "\x00\x00\x00b", "12345", "a\xc3\xa9", "\xc3", "a\nb\"",
		strings.Repeat("y", api.MaxBytes+1),
	}
	for _, k := range []int{7, 31, 32, 33, 63, 64, 65, 16*n - 1, 16 * n, 16*n + 1, 32*n - 32, 32*n - 1, 32 * n, 32*n + 1, 32*n + 32, 64*n - 1, 64 * n, 64*n + 1} {
		l = append(l, d.text(max(1, k)))
	}
	return l
}

// wantFill fills a range, and holds the disk against the plain form.
func wantFill(t *testing.T, d Disk, lba, n int, s string) {
	t.Helper()
	p := plain(d.Content())
	want := p.fill(lba, n, s)
	if e := Fill(d, lba, n, s); e != want {
		t.Fatalf("P24.2: Fill(%T, %d, %d, %.40q): %d, want %d", d, lba, n, s, e, want)
	}
	if d.Content() != string(p) {
		t.Fatalf("P24.2: Fill(%T, %d, %d, %.40q): %q", d, lba, n, s, d.Content())
	}
}

// P24.2: ranges of one sector, of all, and others, filled with texts of all lengths,
// on disks of each kind.
func TestFill(t *testing.T) {
	for _, m := range makers {
		d := written(t, m.make(t, example), 1)
		for _, r := range [][2]int{{0, 1}, {47, 1}, {5, 1}, {0, 48}, {0, 3}, {45, 3}, {10, 7}} {
			for _, s := range texts(r[1]) {
				wantFill(t, d, r[0], r[1], s)
			}
		}
	}
	for _, capacity := range []int{1, 2, api.MaxCapacity} {
		for _, s := range texts(capacity) {
			wantFill(t, written(t, array(t, capacity), 2), 0, capacity, s)
			wantFill(t, written(t, array(t, capacity), 2), capacity-1, 1, s)
		}
	}
}

// P24.2: by hand.
func TestFillByHand(t *testing.T) {
	for _, x := range []struct {
		lba, n int
		s      string
		want   string
	}{
		{0, 1, "a", strings.Repeat("a", 32) + strings.Repeat("-", 64)},
		{1, 1, "abc", strings.Repeat("-", 32) + "abcabcabcabcabcabcabcabcabcabcab" + strings.Repeat("-", 32)},
		{1, 2, "abc", strings.Repeat("-", 32) + "abcabcabcabcabcabcabcabcabcabcab" + "cabcabcabcabcabcabcabcabcabcabca"},
		{0, 3, "0123456789", "01234567890123456789012345678901" + "23456789012345678901234567890123" + "45678901234567890123456789012345"},
		{2, 1, "a\x00\xff", strings.Repeat("-", 64) + "a\x00\xffa\x00\xffa\x00\xffa\x00\xffa\x00\xffa\x00\xffa\x00\xffa\x00\xffa\x00\xffa\x00\xffa\x00"},
		{0, 2, "\x00", noughts(2) + strings.Repeat("-", 32)},
		{0, 1, "0123456789abcdef0123456789ABCDEF", "0123456789abcdef0123456789ABCDEF" + strings.Repeat("-", 64)},
		{0, 1, "0123456789abcdef0123456789ABCDEFg", "0123456789abcdef0123456789ABCDEF" + strings.Repeat("-", 64)},
		{0, 1, "0123456789abcdef0123456789ABCDE", "0123456789abcdef0123456789ABCDE0" + strings.Repeat("-", 64)},
		{0, 2, "0123456789abcdef0123456789ABCDEFg", "0123456789abcdef0123456789ABCDEF" + "g0123456789abcdef0123456789ABCDE" + strings.Repeat("-", 32)},
	} {
		a := array(t, 3)
		a.Write(0, 3, strings.Repeat("-", 96))
		if e := Fill(a, x.lba, x.n, x.s); e != api.OK || a.Content() != x.want {
			t.Errorf("P24.2: Fill(%d, %d, %q): %d, %q", x.lba, x.n, x.s, e, a.Content())
		}
	}
}

// P24.2, R3: an empty text, a range that is not right, and both: nothing changes, and
// nothing is told the disk.
func TestFillRefused(t *testing.T) {
	for _, m := range makers {
		d := written(t, m.make(t, example), 3)
		was := d.Content()
		calls := 0
		if x, ok := d.(*mine); ok {
			calls = len(x.all)
		}
		refused := func(lba, n int, s string) {
			t.Helper()
			if e := Fill(d, lba, n, s); e != api.EARG {
				t.Errorf("P24.2: %s: Fill(%d, %d, %q): %d", m.name, lba, n, s, e)
			}
		}
		for _, r := range [][2]int{{0, 1}, {0, 48}, {47, 1}} {
			refused(r[0], r[1], "")
		}
		for _, r := range [][2]int{{0, 0}, {0, 49}, {1, 48}, {47, 2}, {48, 1}, {48, 0}, {-1, 1}, {-1, 49}, {-1, 0}, {0, -1}, {1, -1}, {48, -1}, {49, -1}} {
			refused(r[0], r[1], "x")
			refused(r[0], r[1], "")
		}
		for _, x := range far {
			for _, y := range append([]int{0, 1, 47, 48}, far...) {
				refused(x, y, "x")
				refused(y, x, "x")
				refused(x, y, "")
			}
		}
		refused(math.MaxInt, math.MaxInt, strings.Repeat("x", 1000))
		if x, ok := d.(*mine); ok && len(x.all) != calls || d.Content() != was {
			t.Errorf("R3: %s: a Fill that is refused changes something", m.name)
		}
	}
}

// P24.2: the range is held against Sectors, whatever the disk's Write takes.
func TestFillHoldsAgainstSectors(t *testing.T) {
	for bytes := range 130 {
		for lba := -1; lba < 6; lba++ {
			for n := -1; n < 6; n++ {
				m := &mine{content: strings.Repeat("-", bytes), badWrite: api.EBAD}
				want, tells := api.EBAD, 1
				if !plain(m.content).right(lba, n) {
					want, tells = api.EARG, 0
				}
				if e := Fill(m, lba, n, "x"); e != want || len(m.all) != tells {
					t.Errorf("P24.2: of %d bytes: Fill(%d, %d): %d, told %v, want %d", bytes, lba, n, e, m.all, want)
				}
			}
		}
	}
}

// P24.2: which error it is: EARG comes ahead of what the Write answers; then that.
func TestFillWhichError(t *testing.T) {
	for _, c := range bothKinds(example) {
		dark := off(t, c)
		was := dark.Image()
		for _, x := range []struct {
			d      Disk
			lba, n int
			s      string
			want   api.Errno
		}{
			{dark, 0, 1, "x", api.EOFF}, {dark, 0, 48, "x", api.EOFF}, {dark, 47, 1, "xyz", api.EOFF},
			{dark, 0, 49, "x", api.EARG}, {dark, 48, 1, "x", api.EARG}, {dark, 0, 0, "x", api.EARG}, {dark, -1, 1, "x", api.EARG},
			{dark, 0, 1, "", api.EARG}, {dark, 48, 1, "", api.EARG},
			// It has no Content, and so no sectors.
			{wrapped{dark}, 0, 1, "x", api.EARG},
			{&mine{content: noughts(2), badWrite: api.EFULL}, 0, 2, "x", api.EFULL},
			{&mine{content: noughts(2), badWrite: api.EFULL}, 0, 2, "", api.EARG},
			{&mine{content: noughts(2), badWrite: api.EFULL}, 0, 3, "x", api.EARG},
			{&mine{content: noughts(2), badWrite: 99}, 1, 1, "x", 99},
			{&mine{content: noughts(2), badWrite: -1}, 1, 1, "x", -1},
			// What it answers to a Read is not asked for.
			{&mine{content: noughts(2), badRead: api.EBAD}, 1, 1, "x", api.OK},
		} {
			if e := Fill(x.d, x.lba, x.n, x.s); e != x.want {
				t.Errorf("P24.2: Fill(%T, %d, %d, %q): %d, want %d", x.d, x.lba, x.n, x.s, e, x.want)
			}
		}
		if !slices.Equal(dark.Image(), was) || dark.Power() || dark.Mount(-1) != api.OK || dark.Content() != "was here"+noughts(48)[8:] {
			t.Errorf("R3: a Fill changes a device that is off")
		}
	}
}

// P24.2: it is one command, a Write that ends where the range ends, of noughts, too: a
// disk of the tests' own is told it, and a device's flash is as that of a device that
// was told it.
func TestFillIsOneWrite(t *testing.T) {
	for _, r := range [][2]int{{0, 1}, {47, 1}, {0, 48}, {10, 9}} {
		for _, s := range texts(r[1]) {
			want := plain(noughts(48))
			want.fill(r[0], r[1], s)
			data := string(want[32*r[0] : 32*(r[0]+r[1])])
			m := &mine{content: noughts(48)}
			if e := Fill(m, r[0], r[1], s); e != api.OK || !slices.Equal(m.all, []told{{"write", r[0], r[1], data}}) {
				t.Errorf("P24.2: Fill(%d, %d, %.40q): %d, told %v", r[0], r[1], s, e, m.all)
			}
			for _, c := range bothKinds(example) {
				one, other := formatted(t, c), formatted(t, c)
				Fill(one, r[0], r[1], s)
				other.Write(r[0], r[1], data)
				wantAlike(t, one, other)
			}
		}
	}
}
