package dev_test

import (
	"bytes"
	"math"
	"slices"
	"strings"
	"testing"

	"ferrule/api"
	"ferrule/dev"
	"ferrule/model"
	"ferrule/size"
	"ferrule/span"
)

var _ func(api.Config) (*dev.Device, api.Errno) = dev.Format
var _ func(api.Config, []byte, int) (*dev.Device, api.Errno) = dev.Open
var _ func(*dev.Device, int, int) (string, api.Errno) = (*dev.Device).Read
var _ func(*dev.Device, int, int, string) api.Errno = (*dev.Device).Write
var _ func(*dev.Device, int, int) api.Errno = (*dev.Device).Trim
var _ func(*dev.Device, int) api.Errno = (*dev.Device).Mount
var _ func(*dev.Device, int) = (*dev.Device).Cut
var _ func(*dev.Device, int) = (*dev.Device).Fail
var _ func(*dev.Device) bool = (*dev.Device).Power
var _ func(*dev.Device) api.Config = (*dev.Device).Config
var _ func(*dev.Device) string = (*dev.Device).Content
var _ func(*dev.Device) []api.Run = (*dev.Device).Runs
var _ func(*dev.Device) span.Map = (*dev.Device).Map
var _ func(*dev.Device) dev.Stat = (*dev.Device).Stat
var _ func(*dev.Device) dev.Work = (*dev.Device).Work
var _ func(*dev.Device) []byte = (*dev.Device).Image
var _ func(*dev.Device) []int = (*dev.Device).Wear

// The examples of chapter 18, on both kinds of device.
func TestExamples(t *testing.T) {
	for _, c := range []api.Config{example, flat(example)} {
		d := format(t, c)
		if e := d.Write(3, 2, "ab"); e != api.OK {
			t.Errorf("Write(3, 2, `ab`): %d", e)
		}
		if s, e := d.Read(3, 1); s != "ab"+strings.Repeat("\x00", 30) || e != api.OK {
			t.Errorf("Read(3, 1): %q, %d", s, e)
		}
		if s, e := d.Read(5, 1); s != noughts(1) || e != api.OK {
			t.Errorf("Read(5, 1): %q, %d", s, e)
		}
		if e := d.Write(47, 2, ""); e != api.EARG {
			t.Errorf("Write(47, 2, ``): %d", e)
		}
		if s, e := d.Read(0, 49); s != "" || e != api.EARG {
			t.Errorf("Read(0, 49): %q, %d", s, e)
		}
		d.Cut(5)
		if e := d.Write(0, 1, "x"); e != api.EOFF {
			t.Errorf("Cut(5), Write(0, 1, `x`): %d", e)
		}
		if s, e := d.Read(0, 1); s != "" || e != api.EOFF {
			t.Errorf("Read(0, 1) with the power off: %q, %d", s, e)
		}
		if e := d.Mount(-1); e != api.OK {
			t.Errorf("Mount(-1): %d", e)
		}
		if s, e := d.Read(0, 1); s != noughts(1) && s != "x"+strings.Repeat("\x00", 31) || e != api.OK {
			t.Errorf("Read(0, 1) behind a cut: %q, %d", s, e)
		}
		d.Fail(0)
		if e := d.Write(0, 1, "x"); e != api.OK {
			t.Errorf("Fail(0), Write(0, 1, `x`): %d", e)
		}
		if s, e := d.Read(0, 1); s != "x"+strings.Repeat("\x00", 31) || e != api.OK || d.Stat().Bad != 1 {
			t.Errorf("Read(0, 1) behind a failure: %q, %d, %d bad", s, e, d.Stat().Bad)
		}
		if e := d.Trim(0, 48); e != api.OK || len(d.Runs()) != 0 {
			t.Errorf("Trim(0, 48): %d, Runs: %v", e, d.Runs())
		}
	}
}

// P18.1: Format of Configs that may be, and of others.
func TestFormat(t *testing.T) {
	for _, c := range append(small(), great()...) {
		for _, c := range []api.Config{c, flat(c)} {
			if !size.Good(c) {
				t.Errorf("the tests' own Config %v may not be", c)
			}
			d := format(t, c)
			if !d.Power() || d.Content() != noughts(c.Capacity) || len(d.Runs()) != 0 || d.Config() != c || d.Work() != (dev.Work{}) || d.Stat().Bad != 0 {
				t.Errorf("P18.1: Format(%v): %v, %v, %v", c, d.Power(), d.Stat(), d.Work())
			}
		}
	}
	spoil := []func(c *api.Config, v int){
		func(c *api.Config, v int) { c.Blocks = v }, func(c *api.Config, v int) { c.Pages = v },
		func(c *api.Config, v int) { c.Capacity = v }, func(c *api.Config, v int) { c.Spare = v },
		func(c *api.Config, v int) { c.MaxRuns = v }, func(c *api.Config, v int) { c.Window = v },
	}
	img := format(t, example).Image()
	for i, f := range spoil {
		for _, v := range append([]int{0, 1, 3, 5, 9, 45, 49, 64, 65}, numbers...) {
			c := example
			f(&c, v)
			d, e := dev.Format(c)
			if good := size.Good(c); (d != nil) != good || (e == api.OK) != good || !good && e != api.EARG {
				t.Errorf("P18.1: Format(%v), number %d: %v, %d", c, i, d, e)
			}
			if o, e := dev.Open(c, img, -1); !size.Good(c) && (o != nil || e != api.EARG) {
				t.Errorf("P18.1: Open(%v): %v, %d", c, o, e)
			}
		}
	}
	if d, e := dev.Open(api.Config{}, nil, -1); d != nil || e != api.EARG {
		t.Errorf("P18.1: Open of nothing: %v, %d", d, e)
	}
}

// P18.2: ranges at all ends, and data of all lengths.
func TestRanges(t *testing.T) {
	for _, c := range []api.Config{example, least(4, 0, 1), flat(tight(40, 4, 4, 4))} {
		d := format(t, c)
		a, _ := model.New(c.Capacity)
		ends := append([]int{0, 1, 2, c.Capacity - 1, c.Capacity, c.Capacity + 1}, numbers...)
		for i, lba := range ends {
			for j, n := range ends {
				data := (&dice{uint64(i*100 + j)}).text(min(40, 32*max(0, min(n, c.Capacity))))
				if e, want := d.Write(lba, n, data), a.Write(lba, n, data); e != want {
					t.Fatalf("P18.2: Write(%d, %d): %d, want %d", lba, n, e, want)
				}
				s, e := d.Read(lba, n)
				if want, refused := a.Read(lba, n); s != want || e != refused {
					t.Fatalf("P18.2: Read(%d, %d): %q, %d, want %q, %d", lba, n, s, e, want, refused)
				}
				if e, want := d.Trim(lba, n), a.Trim(lba, n); e != want {
					t.Fatalf("P18.2: Trim(%d, %d): %d, want %d", lba, n, e, want)
				}
				if d.Content() != a.Content() {
					t.Fatalf("P18.2: (%d, %d): the content is another one", lba, n)
				}
			}
		}
		for n := 1; n <= min(3, c.Capacity); n++ {
			for k := range 32*n + 35 {
				data := strings.Repeat("\xff", k)
				d.Write(0, n, strings.Repeat("old", 40))
				a.Write(0, n, strings.Repeat("old", 40))
				if e := d.Write(0, n, data); e != api.OK || a.Write(0, n, data) != api.OK || d.Content() != a.Content() {
					t.Fatalf("P18.2: Write(0, %d, %d bytes): %d", n, k, e)
				}
			}
		}
	}
}

// P18.2, P18.4: with the power off: EARG is named first, then EOFF; nothing is shown.
func TestPowerOff(t *testing.T) {
	for _, c := range []api.Config{example, flat(example)} {
		d := format(t, c)
		d.Write(0, 4, "a")
		d.Fail(0)
		d.Write(9, 1, "b")
		d.Cut(20)
		if e := d.Write(4, 4, "c"); e != api.EOFF || d.Power() {
			t.Fatalf("P18.2: Write under a cut: %d", e)
		}
		stat, img, wear, work := d.Stat(), d.Image(), d.Wear(), d.Work()
		for _, lba := range append([]int{0, 47, 48}, numbers...) {
			want := api.EOFF
			if lba < 0 || lba > 47 {
				want = api.EARG
			}
			s, e := d.Read(lba, 1)
			if f, g := d.Write(lba, 1, "x"), d.Trim(lba, 1); s != "" || e != want || f != want || g != want {
				t.Errorf("P18.2: at %d with the power off: %q, %d, %d, %d, want %d", lba, s, e, f, g, want)
			}
		}
		m := d.Map()
		if d.Content() != "" || d.Runs() != nil || m != nil || d.Config() != c {
			t.Errorf("P18.4: with the power off: %q, %v, %v", d.Content(), d.Runs(), m)
		}
		if d.Stat() != stat || stat.Bad != 1 || !bytes.Equal(d.Image(), img) || !slices.Equal(d.Wear(), wear) || d.Work() != work {
			t.Errorf("P18.7: what is refused does something: %v, %v", stat, d.Stat())
		}
		if e := d.Mount(-1); e != api.OK || !d.Power() || d.Content()[:1] != "a" || d.Work().Collections != 0 {
			t.Errorf("P18.3: Mount: %d", e)
		}
	}
}

// P18.3: a mount at any time, with the power on, too, changes nothing that is read.
func TestMountAnyTime(t *testing.T) {
	for _, c := range []api.Config{example, flat(tight(40, 4, 4, 4))} {
		d := format(t, c)
		s := newScript(c, 3, 5)
		for i := range 200 {
			x := s.next()
			d.Write(x.lba, x.n, x.data)
			was, runs := d.Content(), d.Runs()
			for range i % 3 {
				if e := d.Mount(-1); e != api.OK || d.Content() != was || !slices.Equal(d.Runs(), runs) || !d.Power() || d.Config() != c {
					t.Fatalf("P18.3: behind the write %d: %d", i, e)
				}
			}
		}
	}
}

// P18.4: Map is the device's own, of its kind, and follows it.
func TestMap(t *testing.T) {
	for _, c := range []api.Config{example, flat(example)} {
		d := format(t, c)
		m := d.Map()
		if _, isFlat := span.Flat(m); isFlat != c.Flat || m.Capacity() != c.Capacity || m.Most() != c.MaxRuns || m.Count() != 0 {
			t.Errorf("P18.4: Map: %s, %d, %d", span.Kind(m), m.Capacity(), m.Most())
		}
		d.Write(5, 3, "x")
		if l := d.Map().Runs(); len(l) != 1 || l[0].Lba != 5 || l[0].Len != 3 || !slices.Equal(l, d.Runs()) {
			t.Errorf("P18.4: Map behind a write: %v", l)
		}
		d.Trim(6, 1)
		if l := d.Map().Runs(); len(l) != 2 || l[1].Lba != 7 || !slices.Equal(l, d.Runs()) {
			t.Errorf("P18.4: Map behind a trim: %v", l)
		}
		if d.Mount(-1); span.Kind(d.Map()) != span.Kind(m) || d.Map().Count() != 2 {
			t.Errorf("P18.4: Map behind a mount: %s", span.Kind(d.Map()))
		}
	}
}

// R4: what is answered is new memory; what is handed in is neither kept nor changed.
func TestNewMemory(t *testing.T) {
	d := format(t, example)
	d.Write(0, 20, strings.Repeat("x", 300))
	d.Trim(3, 1)
	spoil := func() {
		img := d.Image()
		clear(img[:cap(img)])
		wear := d.Wear()
		for i := range wear[:cap(wear)] {
			wear[:cap(wear)][i] = -5
		}
		l := d.Runs()
		for i := range l[:cap(l)] {
			l[:cap(l)][i] = api.Run{Lba: 40, Len: 9, Phys: 9}
		}
	}
	content, img, wear, runs := d.Content(), d.Image(), d.Wear(), d.Runs()
	spoil()
	if d.Content() != content || !bytes.Equal(d.Image(), img) || !slices.Equal(d.Wear(), wear) || !slices.Equal(d.Runs(), runs) {
		t.Errorf("R4: what was answered is the device's own")
	}
	given := slices.Clone(img)
	o := open(t, example, given)
	for i := range given {
		given[i] ^= 0x55
	}
	if o.Content() != content || !bytes.Equal(o.Image(), img) {
		t.Errorf("R4: Open keeps the image")
	}
	given = append(slices.Clone(img), 1, 2, 3)
	o = open(t, example, given[:len(img)])
	o.Write(0, 48, "y")
	o.Mount(-1)
	if !bytes.Equal(given, append(slices.Clone(img), 1, 2, 3)) {
		t.Errorf("R4: Open, or what comes then, changes the image that was handed in")
	}
}

// P18.4: Stat's reads count as they come; it only rises.
func TestStat(t *testing.T) {
	d := format(t, example)
	d.Write(0, 7, "x")
	was := d.Stat()
	d.Read(0, 3)
	if n := d.Stat().Reads - was.Reads; n < 3 {
		t.Errorf("P18.4: reading three sectors: %d reads", n)
	}
	was = d.Stat()
	d.Content()
	if n := d.Stat().Reads - was.Reads; n < 7 {
		t.Errorf("P18.4: Content of seven sectors: %d reads", n)
	}
	was = d.Stat()
	d.Write(0, 7, "y")
	if now := d.Stat(); now.Programs < was.Programs+8 || now.Bad != 0 {
		t.Errorf("P18.4: a write of seven sectors: %v, %v", was, now)
	}
	was = d.Stat()
	if d.Mount(-1); d.Stat().Reads <= was.Reads || d.Stat().Programs < was.Programs {
		t.Errorf("P18.4: a mount: %v, %v", was, d.Stat())
	}
}

// A block that is clean is not worn by being erased: neither one of a new flash, nor
// of an opened one.
func TestCleanBlocks(t *testing.T) {
	d := format(t, example)
	for i := range 12 {
		d.Write(i, 1, "x")
	}
	if s := d.Stat(); s.Erases != 0 || slices.Max(d.Wear()) != 0 {
		t.Errorf("P18.4: %d erases of clean blocks", s.Erases)
	}
	o := open(t, example, d.Image())
	if o.Write(0, 48, "y"); o.Stat().Erases != 0 {
		t.Errorf("P18.4: %d erases of clean blocks of an opened one", o.Stat().Erases)
	}
}

// P18.2: numbers of calls at the ends of int, under a cut and a failure that are far.
func TestFarCutAndFailure(t *testing.T) {
	d := format(t, example)
	d.Cut(math.MaxInt)
	d.Fail(math.MaxInt)
	for i := range 300 {
		if e := d.Write(i%48, 1, "x"); e != api.OK {
			t.Fatalf("P18.4: Write %d: %d", i, e)
		}
	}
	if d.Stat().Bad != 0 || d.Content() != strings.Repeat("x"+strings.Repeat("\x00", 31), 48) {
		t.Errorf("P18.4: %d bad", d.Stat().Bad)
	}
}
