package disk

import (
	"slices"
	"strings"
	"testing"

	"ferrule/api"
)

// P24.2: each kind against each kind: one byte that is another one, at each place in
// the range, next to it, and far from it.
func TestSameOfOneByte(t *testing.T) {
	for _, x := range makers {
		for _, y := range makers {
			a, b := written(t, x.make(t, example), 1), written(t, y.make(t, example), 1)
			text := a.Content()
			for _, i := range []int{0, 1, 31, 32, 33, 63, 64, 95, 96, 500, 48*32 - 33, 48*32 - 32, 48*32 - 1} {
				b.Write(0, 48, text[:i]+"\xff"+text[i+1:])
				for _, r := range [][2]int{{0, 48}, {0, 1}, {0, 2}, {1, 1}, {1, 2}, {2, 1}, {2, 46}, {46, 1}, {46, 2}, {47, 1}} {
					want := i < 32*r[0] || i >= 32*(r[0]+r[1])
					wantSame(t, a, b, r[0], r[1], want)
					wantSame(t, b, a, r[0], r[1], want)
				}
			}
			b.Write(0, 48, text)
			wantSame(t, a, b, 0, 48, true)
		}
	}
}

func wantSame(t *testing.T, a, b Disk, lba, n int, want bool) {
	t.Helper()
	if same, e := Same(a, b, lba, n); same != want || e != api.OK {
		t.Errorf("P24.2: Same(%T, %T, %d, %d): %v, %d, want %v", a, b, lba, n, same, e, want)
	}
}

// P24.2: sectors that were never written, that were trimmed, and that were written as
// noughts are the same; a disk is the same as itself.
func TestSameNoughts(t *testing.T) {
	for _, x := range makers {
		a := written(t, x.make(t, example), 2)
		a.Trim(0, 4)
		a.Write(4, 4, "")
		for _, y := range makers {
			b := y.make(t, example)
			wantSame(t, a, b, 0, 8, true)
			wantSame(t, b, a, 0, 8, true)
			wantSame(t, a, b, 7, 2, false)
			wantSame(t, a, b, 8, 40, false)
		}
		for n := 1; n <= 48; n++ {
			wantSame(t, a, a, 48-n, n, true)
		}
	}
}

// P24.2: disks of different size: all that both have may be the same; a range that one
// of them has not is refused, whichever it is. All ranges, wrong ones among them.
func TestSameOfTwoSizes(t *testing.T) {
	for _, x := range []int{1, 2, 5} {
		for _, y := range []int{1, 2, 4, 5} {
			a, b := written(t, array(t, x), 3), written(t, array(t, y), 3)
			if y > 2 {
				b.Write(1, 1, "another one")
			}
			p, q := plain(a.Content()), plain(b.Content())
			for lba := -2; lba < 8; lba++ {
				for n := -2; n < 8; n++ {
					want, wantE := p.same(q, lba, n)
					if same, e := Same(a, b, lba, n); same != want || e != wantE {
						t.Errorf("P24.2: of %d and %d sectors: Same(%d, %d): %v, %d, want %v, %d", x, y, lba, n, same, e, want, wantE)
					}
				}
			}
		}
	}
}

// P24.2, R2: numbers that are wrong by far.
func TestSameFarAway(t *testing.T) {
	for _, m := range makers {
		a, b := m.make(t, example), m.make(t, example)
		for _, x := range far {
			for _, y := range append([]int{0, 1, 47}, far...) {
				for _, r := range [][2]int{{x, y}, {y, x}} {
					if same, e := Same(a, b, r[0], r[1]); same || e != api.EARG {
						t.Errorf("P24.2: %s: Same(%d, %d): %v, %d", m.name, r[0], r[1], same, e)
					}
				}
			}
		}
	}
}

// P24.2, R2: of both errors it is the first disk's; with an error nothing is the same.
func TestSameWhichError(t *testing.T) {
	a, on, dark := array(t, 4), formatted(t, example), off(t, example)
	bad, worse := &mine{content: noughts(4), badRead: api.EBAD}, &mine{content: noughts(4), badRead: api.ECRC}
	for _, x := range []struct {
		what   string
		a, b   Disk
		lba, n int
		want   api.Errno
	}{
		{"nothing is wrong", a, on, 0, 4, api.OK},
		{"wrong for the first", a, on, 0, 5, api.EARG},
		{"wrong for the second", on, a, 4, 1, api.EARG},
		{"wrong for both", on, a, 0, 49, api.EARG},
		{"the first is off", dark, a, 0, 1, api.EOFF},
		{"the first is off, and wrong for it", dark, a, 48, 1, api.EARG},
		{"the first is off, and wrong for the second", dark, a, 4, 1, api.EOFF},
		{"the second is off", a, dark, 0, 1, api.EOFF},
		{"the second is off, and wrong for the first", a, dark, 4, 1, api.EARG},
		{"the second is off, and wrong for both", a, dark, 48, 1, api.EARG},
		{"the same one, off", dark, dark, 0, 1, api.EOFF},
		{"both are off", dark, off(t, example), 0, 48, api.EOFF},
		{"both have errors", bad, worse, 0, 1, api.EBAD},
		{"both have errors, the other way round", worse, bad, 0, 1, api.ECRC},
		{"both have one error", bad, bad, 0, 1, api.EBAD},
		{"the first has an error, the second is off", bad, dark, 0, 1, api.EBAD},
		{"the first is off, the second has an error", dark, bad, 0, 1, api.EOFF},
		{"the first has an error, and wrong for the second", worse, a, 4, 1, api.ECRC},
		{"the second has an error, and wrong for the first", a, worse, 4, 1, api.EARG},
		{"the second has an error", a, worse, 0, 1, api.ECRC},
		{"the second has an error that has no name", a, &mine{badRead: 99}, 0, 1, 99},
		{"the first has an error that has no name", &mine{badRead: -1}, a, 0, 1, -1},
	} {
		if same, e := Same(x.a, x.b, x.lba, x.n); same != (x.want == api.OK) || e != x.want {
			t.Errorf("P24.2: %s: %v, %d, want %d", x.what, same, e, x.want)
		}
	}
}

// short is a disk that answers fewer bytes than it is asked for.
type short struct{ *mine }

func (s short) Read(lba, n int) (string, api.Errno) {
	b, e := s.mine.Read(lba, n)
	return b[:max(0, len(b)-1)], e
}

// P24.2: bytes that another one's begin with are not these.
func TestSameOfFewerBytes(t *testing.T) {
	for _, text := range []string{noughts(2), strings.Repeat("x", 64)} {
		a, b := &mine{content: text}, short{&mine{content: text}}
		wantSame(t, a, b, 0, 2, false)
		wantSame(t, b, a, 0, 2, false)
		wantSame(t, b, b, 0, 2, true)
	}
}

// R3: the disks stay as they were: none is told anything, no flash does a step.
func TestSameChangesNothing(t *testing.T) {
	for _, c := range bothKinds(example) {
		a, b := written(t, formatted(t, c), 4), written(t, formatted(t, example), 5)
		m := &mine{content: noughts(48)}
		one, other := a.Image(), b.Image()
		a.Cut(0)
		b.Cut(0)
		Same(a, b, 0, 48)
		Same(a, m, 0, 49)
		Same(m, b, 3, 4)
		Same(a, a, 3, 4)
		if !a.Power() || !b.Power() || !slices.Equal(a.Image(), one) || !slices.Equal(b.Image(), other) || m.all != nil || m.content != noughts(48) {
			t.Errorf("P24.2: Same changes a disk: %v", m.all)
		}
	}
}
