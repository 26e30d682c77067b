package image_test

import (
	"slices"
	"strings"
	"testing"

	"ferrule/api"
	"ferrule/dev"
	"ferrule/image"
	"ferrule/tag"
)

// configs are several, flat ones among them, and one with fewer runs than sectors.
func configs() []api.Config {
	return []api.Config{
		config, few,
		{Blocks: 40, Pages: 8, Capacity: 48, Spare: 2, MaxRuns: 48, Window: 8, Flat: true},
		{Blocks: 31, Pages: 8, Capacity: 38, Spare: 1, MaxRuns: 37, Window: 8},
		{Blocks: 20, Pages: 16, Capacity: 23, Spare: 1, MaxRuns: 22, Window: 16, Flat: true},
		{Blocks: 19, Pages: 12, Capacity: 19, MaxRuns: 18, Window: 12},
	}
}

// command has a device do something, and tells whether it was cut.
func (d *dice) command(device *dev.Device, c api.Config) bool {
	lba := d.roll(c.Capacity)
	n := 1 + d.roll(min(6, c.Capacity-lba))
	if d.one(9) {
		device.Cut(d.roll(120))
	}
	e := api.OK
	if d.one(4) {
		e = device.Trim(lba, n)
	} else {
		e = device.Write(lba, n, strings.Repeat(string(byte(d.roll(256))), d.roll(32*n+1)))
	}
	return e == api.EOFF
}

// told holds a device against its image.
func told(t *testing.T, c api.Config, device *dev.Device) {
	t.Helper()
	img := device.Image()
	read, e := sound(t, "a device", c, img)
	content, f := image.Content(c, img)
	if e != api.OK || f != api.OK || content != device.Content() || !slices.Equal(read.Runs, device.Runs()) {
		t.Fatalf("T7: %v: %v, %d, %d", c, read, e, f)
	}
}

// P19.1 to P19.3, T7: images of devices, behind each command and each cut, and
// spoilt in all ways.
func TestOfDevices(t *testing.T) {
	t.Parallel()
	errors := map[[2]api.Errno]int{}
	for i, c := range configs() {
		d := &dice{uint64(i)}
		device, e := dev.Format(c)
		if e != api.OK {
			t.Fatalf("%v may not be", c)
		}
		told(t, c, device)
		for range 120 {
			if d.one(60) && device.Stat().Bad < c.Spare {
				device.Fail(d.roll(5))
			}
			if d.command(device, c) {
				if _, e := sound(t, "behind a cut", c, device.Image()); e != api.OK {
					t.Fatalf("T7: behind a cut: %d", e)
				}
				device.Mount(-1)
			}
			told(t, c, device)
			for range 2 {
				img := device.Image()
				d.spoil(c, img)
				_, e := sound(t, "spoilt", c, img)
				_, f := image.Content(c, img)
				errors[[2]api.Errno{e, f}]++
			}
		}
		lengths(t, d, c, device.Image())
	}
	for _, e := range [][2]api.Errno{{}, {api.OK, api.ECRC}, {api.ELOST, api.ELOST}} {
		if errors[e] < 50 {
			t.Errorf("the images are too much alike: %v", errors)
		}
	}
}

// P19.1: of an image of a device, whatever is left out or put to it.
func lengths(t *testing.T, d *dice, c api.Config, img []byte) {
	t.Helper()
	for _, n := range []int{1, 2, 68, 2 * c.Blocks, c.Pages * 68, c.Pages*68 + 2, 1 + d.roll(len(img)), len(img)} {
		refused(t, "cut shorter", c, img[:len(img)-n], api.EARG)
		refused(t, "cut ahead", c, img[n:], api.EARG)
		refused(t, "made longer", c, append(slices.Clone(img), img[:n]...), api.EARG)
		refused(t, "noughts behind it", c, append(slices.Clone(img), make([]byte, n)...), api.EARG)
	}
}

// spoil changes bytes or pages of an image.
func (d *dice) spoil(c api.Config, img []byte) {
	for range 1 + d.roll(3) {
		switch d.roll(4) {
		case 0:
			img[d.roll(len(img))] = byte(d.roll(256))
		case 1:
			img[d.page(c, img)*68+d.roll(68)] ^= 1 << d.roll(8)
		case 2:
			from, to := d.page(c, img), d.roll(c.Blocks*c.Pages)
			copy(img[to*68:to*68+68], slices.Clone(img[from*68:]))
		case 3:
			d.reword(c, img)
		}
	}
}

// page rolls a page that can be read, more often one of a map than one of data.
func (d *dice) page(c api.Config, img []byte) int {
	pages, numbers := plainPages(c, img)
	if len(pages) == 0 {
		return d.roll(c.Blocks * c.Pages)
	}
	i := d.roll(len(pages))
	for range 10 {
		if pages[i].Kind == api.Data {
			i = d.roll(len(pages))
		}
	}
	return numbers[i]
}

// reword changes what a page says, and writes it anew: there, or elsewhere.
func (d *dice) reword(c api.Config, img []byte) {
	at := d.page(c, img)
	p, e := tag.Decode(img[at*68 : at*68+68])
	if e != api.OK {
		return
	}
	d.change(&p)
	b, _ := tag.Encode(p)
	if d.one(2) {
		at = d.roll(c.Blocks * c.Pages)
	}
	copy(img[at*68:], b)
}

// change makes one thing of a page another.
func (d *dice) change(p *api.Page) {
	fields := []*uint32{&p.Lba, &p.Seq, &p.Epoch, &p.Group, &p.Index, &p.Total}
	switch d.roll(4) {
	case 0:
		p.Payload[d.roll(32)] ^= byte(1 + d.roll(255))
	case 1:
		p.Kind = 1 + d.roll(3)
	case 2:
		*fields[d.roll(6)] = []uint32{0, 1, 33, 1 << 16, 1<<31 - 1, 1<<32 - 1}[d.roll(6)]
	case 3:
		*fields[d.roll(6)] += []uint32{1, 1<<32 - 1}[d.roll(2)]
	}
}

// R4: what is answered is new memory: whatever becomes of it, or of the image, is
// nothing to the others.
func TestNewMemory(t *testing.T) {
	device, _ := dev.Format(config)
	for i := range 40 {
		device.Write(i*7%44, 1+i%4, "abc")
	}
	img := device.Image()
	pages, numbers, _ := image.Pages(config, img)
	read, _ := image.Read(config, img)
	epochs, _ := image.Epochs(config, img)
	content, _ := image.Content(config, img)
	was := slices.Clone(img)
	clear(img)
	p := plainly(config, was)
	if !slices.Equal(pages, p.pages) || !slices.Equal(numbers, p.numbers) {
		t.Error("R4: Pages shares memory with the image")
	}
	if r, _, _ := p.read(); !slices.Equal(read.Runs, r.Runs) || !slices.Equal(epochs, p.epochs()) {
		t.Error("R4: Read or Epochs shares memory with the image")
	}
	if s, _ := p.content(); content != s {
		t.Error("R4: Content shares memory with the image")
	}
	clear(pages[:cap(pages)])
	clear(numbers[:cap(numbers)])
	clear(read.Runs[:cap(read.Runs)])
	clear(epochs[:cap(epochs)])
	sound(t, "answers that were changed", config, was)
}
