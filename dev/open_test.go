package dev_test

import (
	"bytes"
	"fmt"
	"slices"
	"strings"
	"testing"

	"ferrule/api"
	"ferrule/delta"
	"ferrule/dev"
	"ferrule/leaf"
	"ferrule/size"
	"ferrule/tag"
)

// goOnAlike plays commands on two devices: they must answer alike, and their flashes
// be alike behind each one.
func goOnAlike(t *testing.T, what string, a, b *dev.Device, l []command) {
	t.Helper()
	for i, x := range l {
		var e, f api.Errno
		if x.trim {
			e, f = a.Trim(x.lba, x.n), b.Trim(x.lba, x.n)
		} else {
			e, f = a.Write(x.lba, x.n, x.data), b.Write(x.lba, x.n, x.data)
		}
		if e != api.OK || f != api.OK || a.Content() != b.Content() || !slices.Equal(a.Runs(), b.Runs()) || !bytes.Equal(a.Image(), b.Image()) {
			t.Fatalf("T9: %s: command %d behind it: %d, %d", what, i, e, f)
		}
	}
}

// T9: a device that is opened over an image shows what the one shows that told it,
// and goes on as it does, call by call, flash and all: at rest, ...
func TestOpenAtRest(t *testing.T) {
	for i, c := range small() {
		t.Run(name(c), func(t *testing.T) {
			t.Parallel()
			sizes, _ := size.Of(c)
			d := format(t, c)
			s := newScript(c, 40+i, 4)
			for k := range 220 {
				if k%9 == 0 && d.Stat().Bad < c.Spare {
					d.Fail(s.roll(9))
				}
				x := s.next()
				d.Write(x.lba, x.n, x.data)
				if k%9 == 5 {
					d.Trim(x.lba, x.n)
				}
				d.Fail(-1)
				if k%4 != 0 {
					continue
				}
				what := fmt.Sprintf("behind command %d", k)
				o, e := dev.Open(c, d.Image(), -1)
				if e != api.OK || !o.Power() || o.Config() != c || o.Content() != d.Content() || !slices.Equal(o.Runs(), d.Runs()) || o.Stat().Bad != d.Stat().Bad || o.Work() != (dev.Work{}) {
					t.Fatalf("T9: %s: Open: %d", what, e)
				}
				if o := open(t, c, d.Image()); o.Stat().Reads > sizes.MountReads || slices.Max(o.Wear()) > o.Stat().Erases {
					t.Fatalf("T6: %s: Open: %v", what, o.Stat())
				}
				goOnAlike(t, what, o, d, []command{s.next(), s.next(), s.next()})
			}
		})
	}
}

// ... and behind cuts, ahead of any mount: as the one does that is mounted then.
func TestOpenBehindCuts(t *testing.T) {
	for i, c := range cutConfigs() {
		for j, m := range moments(t, c) {
			t.Run(name(c)+" "+m.what, func(t *testing.T) {
				t.Parallel()
				dice := &dice{uint64(i*100 + j)}
				for k := 0; ; k += 1 + dice.roll(12) {
					d := open(t, c, m.img)
					d.Cut(k)
					var e api.Errno
					if m.next.trim {
						e = d.Trim(m.next.lba, m.next.n)
					} else {
						e = d.Write(m.next.lba, m.next.n, m.next.data)
					}
					if e == api.OK {
						break
					}
					o, e := dev.Open(c, d.Image(), -1)
					if f := d.Mount(-1); e != api.OK || f != api.OK || o.Content() != d.Content() || !slices.Equal(o.Runs(), d.Runs()) || !bytes.Equal(o.Image(), d.Image()) {
						t.Fatalf("T9: cut after %d steps: Open %d, Mount %d", k, e, f)
					}
					goOnAlike(t, fmt.Sprintf("cut after %d steps", k), o, d, m.then)
				}
			})
		}
	}
}

// P18.1: Open that is cut: the device, with the power off, or (if there is no step to
// be cut) on; then a mount shows what is there.
func TestOpenCut(t *testing.T) {
	for _, m := range moments(t, cutConfigs()[0]) {
		d := open(t, m.config, m.img)
		d.Cut(40)
		d.Write(0, m.config.Capacity, "cut")
		for k := range 60 {
			o, e := dev.Open(m.config, d.Image(), k)
			if o == nil || e != api.OK && e != api.EOFF || o.Power() != (e == api.OK) || o.Config() != m.config {
				t.Fatalf("P18.1: %s: Open, cut after %d steps: %d", m.what, k, e)
			}
			if e == api.EOFF && (o.Content() != "" || o.Runs() != nil || o.Map() != nil) {
				t.Fatalf("P18.1: %s: Open, cut after %d steps, shows something", m.what, k)
			}
			if e := o.Mount(-1); e != api.OK || o.Content() != m.array.Content() {
				t.Fatalf("P18.1: %s: Open, cut after %d steps, and a mount: %d", m.what, k, e)
			}
		}
	}
}

// rest sets an image's marks of blocks so that it is one of some flash: each block's
// next page is behind its last one that is not clean.
func rest(c api.Config, img []byte) []byte {
	for b := range c.Blocks {
		next := c.Pages
		for next > 0 && tag.Clean(img[(b*c.Pages+next-1)*68:(b*c.Pages+next)*68]) {
			next--
		}
		at := c.Blocks*c.Pages*68 + 2*b
		img[at], img[at+1] = img[at]&1, byte(next)
	}
	return img
}

// empty is an image of a flash that was never written.
func empty(c api.Config) []byte {
	return rest(c, append(bytes.Repeat([]byte{255}, c.Blocks*c.Pages*68), make([]byte, 2*c.Blocks)...))
}

// P18.1: Open's errors, and which of them is named first.
func TestOpenErrors(t *testing.T) {
	c := example
	d := format(t, c)
	d.Write(0, 9, "abc")
	img := d.Image()
	with := func(img []byte, f func(img []byte)) []byte {
		img = slices.Clone(img)
		f(img)
		return img
	}
	marks := 40 * 8 * 68
	bad := func(n int) func([]byte) {
		return func(img []byte) {
			for b := range n {
				img[marks+2*(39-b)] |= 1
			}
		}
	}
	other := c
	other.Blocks = 39
	wrong := c
	wrong.Window = 9
	for _, x := range []struct {
		what string
		c    api.Config
		img  []byte
		want api.Errno
	}{
		{"its own", c, img, api.OK},
		{"its own, flat", flat(c), img, api.OK},
		{"a wrong Config", wrong, img, api.EARG},
		{"a wrong Config and a wrong length", wrong, img[:9], api.EARG},
		{"nothing", c, nil, api.EFORM},
		{"one byte less", c, img[1:], api.EFORM},
		{"one byte more", c, append(slices.Clone(img), 0), api.EFORM},
		{"another flash", other, img, api.EFORM},
		{"a mark of no block", c, with(img, func(i []byte) { i[marks] = 4 }), api.EFORM},
		{"a next page that is none", c, with(img, func(i []byte) { i[marks+1] = 9 }), api.EFORM},
		{"pages that are not clean behind the next one", c, with(img, func(i []byte) { i[marks+1] = 0 }), api.EFORM},
		{"a torn block that is not noughts", c, with(img, func(i []byte) { i[marks+2*39] = 2 }), api.EFORM},
		{"a clean flash", c, empty(c), api.ELOST},
		{"a clean flash, all blocks bad", c, with(empty(c), bad(40)), api.ELOST},
		{"noughts, all torn", c, with(make([]byte, len(img)), func(i []byte) {
			for b := range 40 {
				i[marks+2*b] = 2
			}
		}), api.ELOST},
		{"as many bad blocks as may be", c, with(img, bad(2)), api.OK},
		{"one more", c, with(img, bad(3)), api.EDEAD},
		{"all bad", c, with(img, bad(40)), api.EDEAD},
		{"all bad and a wrong length", c, with(img, bad(40))[1:], api.EFORM},
	} {
		for _, cut := range []int{-1, 1 << 62} {
			o, e := dev.Open(x.c, x.img, cut)
			if e != x.want || (o != nil) != (e == api.OK) {
				t.Errorf("P18.1: Open of %s: %v, %d, want %d", x.what, o, e, x.want)
			}
			if e == api.OK && (o.Content() != d.Content() || !o.Power()) {
				t.Errorf("P18.1: Open of %s shows something else", x.what)
			}
		}
	}
}

// useAnyhow does what it can to a device of an image that no device told: nothing
// may panic, and all must end.
func useAnyhow(c api.Config, img []byte, d *dice) api.Errno {
	o, e := dev.Open(c, img, d.roll(200)-100)
	if o == nil {
		return e
	}
	for range 12 {
		lba := d.roll(c.Capacity)
		n := 1 + d.roll(c.Capacity-lba)
		switch d.roll(8) {
		case 0:
			o.Trim(lba, n)
		case 1:
			o.Mount(d.roll(300) - 200)
		case 2:
			o.Fail(d.roll(9))
		case 3:
			o.Cut(d.roll(400))
		case 4:
			o.Write(0, c.Capacity, "all")
		default:
			o.Write(lba, n, "anyhow")
		}
		o.Read(lba, n)
	}
	o.Mount(-1)
	for range 30 {
		o.Write(d.roll(c.Capacity), 1, "more")
	}
	o.Content()
	o.Runs()
	o.Map()
	o.Stat()
	o.Work()
	o.Image()
	o.Wear()
	return e
}

// P18.1: spoilt images: pages that stand elsewhere, bytes that are others, blocks
// that are bad: an error that the chapter names, or a device that does not panic.
func TestSpoiltImages(t *testing.T) {
	for i, c := range []api.Config{example, flat(tight(40, 4, 4, 4)), cutConfigs()[0]} {
		t.Run(fmt.Sprint(i), func(t *testing.T) {
			t.Parallel()
			d := &dice{uint64(i)}
			for _, m := range moments(t, c) {
				pages := c.Blocks * c.Pages
				for range 40 {
					img := slices.Clone(m.img)
					for range 1 + d.roll(8) {
						a, b := d.roll(pages), d.roll(pages)
						switch d.roll(4) {
						case 0:
							img[d.roll(pages*68)] ^= byte(1 + d.roll(255))
						case 1:
							img[pages*68+2*d.roll(c.Blocks)] ^= 1
						default:
							copy(img[a*68:(a+1)*68], m.img[b*68:(b+1)*68])
						}
					}
					if e := useAnyhow(c, rest(c, img), d); e != api.OK && e != api.EOFF && e != api.ELOST && e != api.EDEAD {
						t.Fatalf("P18.1: Open of a spoilt image: %d", e)
					}
				}
			}
		})
	}
}

// forged tells an image whose pages are right by themselves, but of a snapshot and
// records that no device writes.
func forged(c api.Config, d *dice) []byte {
	img := empty(c)
	at := 0
	put := func(p api.Page) {
		if at >= c.Blocks*c.Pages {
			return
		}
		b, _ := tag.Encode(p)
		copy(img[at*68:], b)
		at++
	}
	epoch := []uint32{0, 1, 7, 1<<32 - 2, 1<<32 - 1}[d.roll(5)]
	stream := func(s leaf.Stream) {
		pages, _ := leaf.Cut(s)
		for _, p := range pages {
			put(p)
		}
	}
	for range 1 + d.roll(3) {
		var runs []api.Run
		lba := 0
		for range d.roll(api.MaxRuns) {
			lba += d.roll(3)
			n := 1 + d.roll(3)
			if lba+n > c.Capacity+d.roll(2) {
				break
			}
			runs = append(runs, api.Run{Lba: lba, Len: n, Phys: d.roll(c.Blocks*c.Pages - n + d.roll(2))})
			lba += n
		}
		b, e := delta.Snapshot(runs)
		if e != api.OK {
			continue
		}
		stream(leaf.Stream{Kind: api.Snap, Epoch: epoch, Group: uint32(d.roll(8) / 7), Bytes: b})
		for range d.roll(5) {
			var ops []api.Op
			for range d.roll(9) {
				ops = append(ops, api.Op{Lba: d.roll(c.Capacity), Len: d.roll(5), Phys: d.roll(c.Blocks*c.Pages+4) - 1})
			}
			b, _ := delta.Record(ops)
			stream(leaf.Stream{Kind: api.Log, Epoch: epoch, Group: []uint32{0, 1, 2, 1<<32 - 1}[d.roll(4)], Bytes: b})
		}
		put(api.Page{Kind: 1 + d.roll(3), Lba: uint32(d.roll(60)), Epoch: epoch, Group: 1<<32 - 1, Index: 1 << 31, Total: 1<<32 - 1})
		at += d.roll(c.Pages)
		epoch++
	}
	for at < c.Blocks*c.Pages && d.roll(40) > 0 {
		put(api.Page{Kind: api.Data, Lba: uint32(d.roll(c.Capacity))})
	}
	return rest(c, img)
}

// P18.1: forged images: no call panics, and each one ends.
func TestForgedImages(t *testing.T) {
	for i, c := range []api.Config{example, flat(tight(40, 4, 4, 4)), least(4, 0, 1), least(8, 2, 8), tight(64, 32, 0, 32)} {
		t.Run(fmt.Sprint(i), func(t *testing.T) {
			t.Parallel()
			d := &dice{uint64(100 + i)}
			opened := 0
			for range 150 {
				e := useAnyhow(c, forged(c, d), d)
				if e != api.OK && e != api.EOFF && e != api.ELOST && e != api.EDEAD {
					t.Fatalf("P18.1: Open of a forged image: %d", e)
				}
				if e == api.OK {
					opened++
				}
			}
			if opened == 0 {
				t.Errorf("the forged images are too bad: none was opened")
			}
		})
	}
}

// A sector whose page is spoilt is not told as if it were whole; all others are.
func TestSpoiltPage(t *testing.T) {
	d := format(t, example)
	d.Write(0, 8, strings.Repeat("abcd", 64))
	d.Write(3, 1, "x")
	at := d.Runs()[len(d.Runs())-1].Phys // of the sector 4
	for what, spoil := range map[string]func(p []byte){
		"a byte":         func(p []byte) { p[40] ^= 1 },
		"torn":           func(p []byte) { copy(p[64:], "\xff\xff\xff\xff") },
		"another sector": func(p []byte) { b, _ := tag.Encode(api.Page{Kind: api.Data, Lba: 5}); copy(p, b) },
		"another kind":   func(p []byte) { b, _ := tag.Encode(api.Page{Kind: api.Log, Lba: 4, Epoch: 9}); copy(p, b) },
	} {
		img := d.Image()
		spoil(img[at*68 : (at+1)*68])
		o := open(t, example, img)
		if s, e := o.Read(4, 1); s != "" || e == api.OK {
			t.Errorf("P18.1: %s: Read: %q, %d", what, s, e)
		}
		for _, x := range [][2]int{{0, 4}, {5, 43}} {
			want, _ := d.Read(x[0], x[1])
			if s, e := o.Read(x[0], x[1]); s != want || e != api.OK {
				t.Errorf("P18.1: %s: Read(%d, %d): %q, %d", what, x[0], x[1], s, e)
			}
		}
		if e := o.Write(4, 1, "new"); e != api.OK || o.Content()[128:131] != "new" {
			t.Errorf("P18.1: %s: a write over it: %d", what, e)
		}
	}
}

// A map that somebody has changed spoils the device: no call panics for it.
func TestSpoiltMap(t *testing.T) {
	for _, c := range []api.Config{example, flat(example)} {
		for _, phys := range []int{0, 9, 319, 320, 1 << 20} {
			d := format(t, c)
			d.Write(0, 20, "x")
			d.Map().Set(3, 5, phys)
			d.Read(0, 48)
			for i := range 60 {
				d.Write(i%48, 1, "y")
				d.Trim(5, 2)
			}
			d.Content()
			d.Mount(-1)
			d.Write(0, 48, "z")
			d.Content()
		}
	}
}
