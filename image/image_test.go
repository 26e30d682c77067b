package image_test

import (
	"math"
	"slices"
	"strings"
	"testing"

	"ferrule/api"
	"ferrule/dev"
	"ferrule/image"
	"ferrule/leaf"
)

var _ func(api.Config, []byte) ([]api.Page, []int, api.Errno) = image.Pages
var _ func(api.Config, []byte) (image.Told, api.Errno) = image.Read
var _ func(api.Config, []byte) (string, api.Errno) = image.Content
var _ func(api.Config, []byte) ([]uint32, api.Errno) = image.Epochs

func noughts(sectors int) string { return strings.Repeat("\x00", 32*sectors) }

// The examples of chapter 19.
func TestExamples(t *testing.T) {
	d, _ := dev.Format(config)
	if told, e := sound(t, "behind Format", config, d.Image()); e != api.OK || told.Records != 0 || len(told.Runs) != 0 {
		t.Errorf("P19.2: behind Format: %v, %d", told, e)
	}
	d.Write(3, 2, "ab")
	if told, e := sound(t, "behind a write", config, d.Image()); e != api.OK || told.Records != 1 || len(told.Runs) != 1 || told.Runs[0].Lba != 3 || told.Runs[0].Len != 2 {
		t.Errorf("P19.2: behind Write(3, 2, ..): %v, %d", told, e)
	}
	if s, e := image.Content(config, d.Image()); s != noughts(3)+"ab"+noughts(45)[2:] || e != api.OK {
		t.Errorf("P19.3: behind Write(3, 2, ..): %q, %d", s, e)
	}
	if told, e := sound(t, "nothing", config, newCanvas().img); e != api.ELOST {
		t.Errorf("P19.2: bytes 255: %v, %d", told, e)
	}
}

// refused holds all four calls against an error.
func refused(t *testing.T, what string, c api.Config, img []byte, want api.Errno) {
	t.Helper()
	pages, numbers, e := image.Pages(c, img)
	told, f := image.Read(c, img)
	content, g := image.Content(c, img)
	epochs, h := image.Epochs(c, img)
	if len(pages) != 0 || len(numbers) != 0 || told.Epoch != 0 || told.Records != 0 || len(told.Runs) != 0 || content != "" || len(epochs) != 0 {
		t.Errorf("R2: %s: something is answered beside an error", what)
	}
	if e != want || f != want || g != want || h != want {
		t.Errorf("P19.1: %s: %d, %d, %d, %d, want %d", what, e, f, g, h, want)
	}
}

// P19.1: Configs that may not be, and lengths that are not right.
func TestRefused(t *testing.T) {
	d, _ := dev.Format(config)
	d.Write(0, 9, "abc")
	img := d.Image()
	for _, n := range []int{0, 1, 68, 320 * 68, 320*68 + 40, 320*68 + 79} {
		refused(t, "too short", config, img[:n], api.EARG)
	}
	refused(t, "nothing", config, nil, api.EARG)
	refused(t, "too long", config, append(slices.Clone(img), 0), api.EARG)
	refused(t, "twice", config, append(slices.Clone(img), img...), api.EARG)
	for i := range 6 {
		for _, v := range []int{math.MinInt, -1, 0, 1 << 31, 1 << 62, math.MaxInt} {
			c := config
			*[]*int{&c.Blocks, &c.Pages, &c.Capacity, &c.Spare, &c.MaxRuns, &c.Window}[i] = v
			if i == 3 && v == 0 {
				continue // a device that has no spare block may be
			}
			refused(t, "a Config that may not be", c, img, api.EARG)
		}
	}
	wrong := config
	wrong.MaxRuns = 45
	refused(t, "one run too few", wrong, img, api.EARG)
	refused(t, "no Config", api.Config{}, nil, api.EARG)
	flat := config
	flat.Flat = true
	if told, e := sound(t, "flat", flat, img); e != api.OK || told.Records != 1 {
		t.Errorf("P19.2: what Flat is makes a difference: %v, %d", told, e)
	}
}

// P19.1: what the marks of the blocks say makes no difference.
func TestMarks(t *testing.T) {
	d, _ := dev.Format(config)
	d.Write(0, 9, "abc")
	want, _ := image.Content(config, d.Image())
	img := d.Image()
	for i := 320 * 68; i < len(img); i++ {
		img[i] = 0xEE
	}
	sound(t, "wild marks", config, img)
	if s, e := image.Content(config, img); s != want || e != api.OK {
		t.Errorf("P19.3: with wild marks: %d", e)
	}
}

// P19.2: which epoch it is.
func TestNewest(t *testing.T) {
	run := api.Run{Lba: 1, Len: 2, Phys: 20}
	for _, x := range []struct {
		what  string
		make  func(c *canvas)
		epoch uint32
		e     api.Errno
	}{
		{"one", func(c *canvas) { c.snap(5, run) }, 5, api.OK},
		{"the epoch 0", func(c *canvas) { c.snap(0, run) }, 0, api.OK},
		{"the greatest epoch", func(c *canvas) { c.snap(1<<32-1, run); c.snap(7) }, 1<<32 - 1, api.OK},
		{"two, the newer one behind", func(c *canvas) { c.snap(5, run); c.snap(6) }, 6, api.OK},
		{"two, the newer one ahead", func(c *canvas) { c.snap(300); c.snap(5, run) }, 300, api.OK},
		{"numbers are no bytes", func(c *canvas) { c.snap(256); c.snap(255, run) }, 256, api.OK},
		{"the newer one is not whole", func(c *canvas) {
			c.snap(5, run)
			c.stream(leaf.Stream{Kind: api.Snap, Epoch: 6, Bytes: make([]byte, 33)}, 1)
		}, 5, api.OK},
		{"the newer one is no snapshot", func(c *canvas) {
			c.snap(5, run)
			c.stream(leaf.Stream{Kind: api.Snap, Epoch: 6, Bytes: []byte{1, 0}})
		}, 5, api.OK},
		{"the newer one is of a group", func(c *canvas) {
			c.snap(5, run)
			c.stream(leaf.Stream{Kind: api.Snap, Epoch: 6, Group: 1, Bytes: []byte{0}})
		}, 5, api.OK},
		{"the newer one ends at the capacity", func(c *canvas) { c.snap(5, run); c.snap(6, api.Run{Lba: 40, Len: 8, Phys: 1}) }, 6, api.OK},
		{"the newer one ends behind the capacity", func(c *canvas) { c.snap(5, run); c.snap(6, api.Run{Lba: 40, Len: 9, Phys: 1}) }, 5, api.OK},
		{"the newer one has the last pages", func(c *canvas) { c.snap(5, run); c.snap(6, api.Run{Lba: 0, Len: 8, Phys: 312}) }, 6, api.OK},
		{"the newer one has pages that are not there", func(c *canvas) { c.snap(5, run); c.snap(6, api.Run{Lba: 0, Len: 8, Phys: 313}) }, 5, api.OK},
		{"its first run has pages that are not there", func(c *canvas) {
			c.snap(5, run)
			c.snap(6, api.Run{Lba: 0, Len: 1, Phys: 320}, api.Run{Lba: 2, Len: 1, Phys: 3})
		}, 5, api.OK},
		{"a record alone", func(c *canvas) { c.log(5, 1, api.Op{Lba: 0, Len: 1, Phys: 2}) }, 0, api.ELOST},
		{"none is whole", func(c *canvas) {
			c.stream(leaf.Stream{Kind: api.Snap, Epoch: 6, Bytes: make([]byte, 33)}, 0)
			c.stream(leaf.Stream{Kind: api.Snap, Epoch: 7, Bytes: make([]byte, 33)}, 1)
		}, 0, api.ELOST},
	} {
		c := newCanvas()
		x.make(c)
		if told, e := sound(t, x.what, config, c.img); told.Epoch != x.epoch || e != x.e {
			t.Errorf("P19.2: %s: %v, %d, want %d, %d", x.what, told, e, x.epoch, x.e)
		}
	}
}

// P19.2: what the records do.
func TestRecords(t *testing.T) {
	first := api.Run{Lba: 0, Len: 4, Phys: 10}
	for _, x := range []struct {
		what    string
		make    func(c *canvas)
		records int
		runs    []api.Run
		e       api.Errno
	}{
		{"none", func(c *canvas) {}, 0, []api.Run{first}, api.OK},
		{"one", func(c *canvas) { c.log(5, 1, api.Op{Lba: 1, Len: 1, Phys: 30}) }, 1, []api.Run{{Lba: 0, Len: 1, Phys: 10}, {Lba: 1, Len: 1, Phys: 30}, {Lba: 2, Len: 2, Phys: 12}}, api.OK},
		{"by groups, not by places", func(c *canvas) {
			c.log(5, 70000, api.Op{Lba: 0, Len: 4, Phys: 30})
			c.log(5, 300, api.Op{Lba: 0, Len: 4, Phys: 40})
			c.log(5, 1<<32-1, api.Op{Lba: 3, Len: 1, Phys: -1})
			c.log(5, 0, api.Op{Lba: 9, Len: 1, Phys: 50})
		}, 4, []api.Run{{Lba: 0, Len: 3, Phys: 30}, {Lba: 9, Len: 1, Phys: 50}}, api.OK},
		{"changes one behind the other", func(c *canvas) {
			c.log(5, 1, api.Op{Lba: 0, Len: 4, Phys: 30}, api.Op{Lba: 0, Len: 4, Phys: -1}, api.Op{Lba: 2, Len: 1, Phys: 7})
		}, 1, []api.Run{{Lba: 2, Len: 1, Phys: 7}}, api.OK},
		{"of other epochs", func(c *canvas) {
			c.log(4, 9, api.Op{Lba: 0, Len: 4, Phys: 30})
			c.log(6, 9, api.Op{Lba: 0, Len: 4, Phys: 40})
		}, 0, []api.Run{first}, api.OK},
		{"one without changes", func(c *canvas) { c.log(5, 1) }, 1, []api.Run{first}, api.OK},
		{"one that is not whole", func(c *canvas) {
			c.stream(leaf.Stream{Kind: api.Log, Epoch: 5, Group: 1, Bytes: make([]byte, 40)}, 0)
			c.log(5, 2, api.Op{Lba: 0, Len: 3, Phys: -1})
		}, 1, []api.Run{{Lba: 3, Len: 1, Phys: 13}}, api.OK},
		{"one that is no record", func(c *canvas) {
			c.stream(leaf.Stream{Kind: api.Log, Epoch: 5, Group: 1, Bytes: []byte{9}})
			c.log(5, 2, api.Op{Lba: 0, Len: 3, Phys: -1})
		}, 1, []api.Run{{Lba: 3, Len: 1, Phys: 13}}, api.OK},
		{"up to the last page", func(c *canvas) { c.log(5, 1, api.Op{Lba: 0, Len: 4, Phys: 316}) }, 1, []api.Run{{Lba: 0, Len: 4, Phys: 316}}, api.OK},
		{"behind the last page", func(c *canvas) { c.log(5, 1, api.Op{Lba: 0, Len: 4, Phys: 317}) }, 0, nil, api.EFORM},
		{"far behind it", func(c *canvas) { c.log(5, 1, api.Op{Lba: 0, Len: 1, Phys: 1 << 20}) }, 0, nil, api.EFORM},
		{"behind the last sector", func(c *canvas) { c.log(5, 1, api.Op{Lba: 47, Len: 2, Phys: 1}) }, 0, nil, api.EFORM},
		{"nowhere, behind the last sector", func(c *canvas) { c.log(5, 1, api.Op{Lba: 48, Len: 1, Phys: -1}) }, 0, nil, api.EFORM},
		{"no sector", func(c *canvas) { c.log(5, 1, api.Op{Lba: 3, Len: 0, Phys: 1}) }, 0, nil, api.EFORM},
		{"no sector, nowhere", func(c *canvas) { c.log(5, 1, api.Op{Lba: 3, Len: 0, Phys: -1}) }, 0, nil, api.EFORM},
		{"the second change is not right", func(c *canvas) {
			c.log(5, 1, api.Op{Lba: 3, Len: 1, Phys: 1}, api.Op{Lba: 40, Len: 9, Phys: 1})
		}, 0, nil, api.EFORM},
		{"a wrong record of another epoch", func(c *canvas) { c.log(4, 1, api.Op{Lba: 0, Len: 4, Phys: 317}) }, 0, []api.Run{first}, api.OK},
	} {
		c := newCanvas()
		c.snap(5, first)
		c.snap(4, api.Run{Lba: 20, Len: 1, Phys: 99})
		x.make(c)
		told, e := sound(t, x.what, config, c.img)
		if told.Records != x.records || !slices.Equal(told.Runs, x.runs) || e != x.e {
			t.Errorf("P19.2: %s: %v, %d, want %d, %v, %d", x.what, told, e, x.records, x.runs, x.e)
		}
	}
}

// P19.2: how many runs may come of one record: asked behind it, not within it.
func TestRunsOfARecord(t *testing.T) {
	c := config
	c.Blocks, c.Pages, c.Capacity, c.Spare, c.Window, c.MaxRuns = 64, 32, 480, 0, 20, 120
	ragged := func(n int) []api.Op {
		var ops []api.Op
		for i := range n {
			ops = append(ops, api.Op{Lba: 3 * i, Len: 1, Phys: 5 * i})
		}
		return ops
	}
	for _, x := range []struct {
		what string
		ops  []api.Op
		e    api.Errno
	}{
		{"as many as may be", ragged(120), api.OK},
		{"one more", ragged(121), api.EFORM},
		{"more on the way, one at the end", append(ragged(160), api.Op{Lba: 0, Len: 480, Phys: 1000}), api.OK},
		{"more on the way, and one more at the end", append(ragged(160), api.Op{Lba: 0, Len: 117, Phys: -1}), api.EFORM},
		{"more on the way, as many at the end", append(ragged(160), api.Op{Lba: 0, Len: 120, Phys: -1}), api.OK},
	} {
		can := canvasOf(c, 1500)
		can.snap(1)
		can.log(1, 1, x.ops...)
		if told, e := sound(t, x.what, c, can.img); e != x.e || e == api.OK && told.Records != 1 {
			t.Errorf("P19.2: %s: %v, %d, want %d", x.what, told, e, x.e)
		}
	}
	// Of the snapshot itself it is not asked.
	can := canvasOf(c, 1500)
	var runs []api.Run
	for _, o := range ragged(150) {
		runs = append(runs, api.Run(o))
	}
	can.snap(1, runs...)
	if told, e := sound(t, "a snapshot of many runs", c, can.img); e != api.OK || len(told.Runs) != 150 {
		t.Errorf("P19.2: a snapshot of many runs: %d, %d", len(told.Runs), e)
	}
	can.log(1, 1)
	if _, e := sound(t, "a snapshot of many runs, and a record", c, can.img); e != api.EFORM {
		t.Errorf("P19.2: a snapshot of many runs, and a record: %d", e)
	}
	can.log(1, 0, api.Op{Lba: 0, Len: 90, Phys: -1})
	if told, e := sound(t, "a record ahead that makes them fewer", c, can.img); e != api.OK || len(told.Runs) != 120 {
		t.Errorf("P19.2: a record ahead that makes them fewer: %d, %d", len(told.Runs), e)
	}
}

// P19.3: the pages that the map names.
func TestContent(t *testing.T) {
	paint := func() *canvas {
		c := newCanvas()
		c.snap(5, api.Run{Lba: 0, Len: 1, Phys: 0}, api.Run{Lba: 46, Len: 2, Phys: 318})
		c.data(0, 0, "first")
		c.data(318, 46, strings.Repeat("\xff", 32))
		c.data(319, 47, "last")
		return c
	}
	c := paint()
	sound(t, "all there", config, c.img)
	if s, e := image.Content(config, c.img); e != api.OK || s[:5] != "first" || s[46*32:47*32] != strings.Repeat("\xff", 32) || s[47*32:47*32+4] != "last" || s[5:46*32] != noughts(46)[5:] || len(s) != 48*32 {
		t.Errorf("P19.3: all there: %q, %d", s, e)
	}
	for what, spoil := range map[string]func(c *canvas){
		"a clean page":         func(c *canvas) { copy(c.img[319*68:320*68], slices.Repeat([]byte{255}, 68)) },
		"a torn page":          func(c *canvas) { copy(c.img[319*68+64:320*68], "\xff\xff\xff\xff") },
		"a wrong sum":          func(c *canvas) { c.img[319*68+30]++ },
		"another sector":       func(c *canvas) { c.data(319, 46, "last") },
		"a sector far off":     func(c *canvas) { c.data(319, 47+1<<31, "last") },
		"a page of a log":      func(c *canvas) { c.put(319, api.Page{Kind: api.Log, Lba: 47}) },
		"a page of a snapshot": func(c *canvas) { c.put(0, api.Page{Kind: api.Snap, Lba: 0, Epoch: 1, Index: 1}) },
		"the first one":        func(c *canvas) { c.img[0] = 9 },
	} {
		c := paint()
		spoil(c)
		if _, e := sound(t, what, config, c.img); e != api.OK {
			t.Errorf("P19.2: %s: Read: %d", what, e)
		}
		if s, e := image.Content(config, c.img); s != "" || e != api.ECRC {
			t.Errorf("P19.3: %s: %q, %d", what, s, e)
		}
	}
}

// P19.3: all epochs with a right snapshot.
func TestEpochs(t *testing.T) {
	c := newCanvas()
	if l, e := image.Epochs(config, c.img); len(l) != 0 || e != api.OK {
		t.Errorf("P19.3: none: %v, %d", l, e)
	}
	c.snap(300)
	c.snap(7, api.Run{Lba: 0, Len: 1, Phys: 0})
	c.snap(9, api.Run{Lba: 48, Len: 1, Phys: 0})
	c.snap(0)
	c.log(8, 1)
	c.stream(leaf.Stream{Kind: api.Snap, Epoch: 12, Group: 3, Bytes: []byte{0}})
	c.snap(1<<32 - 1)
	if l, e := image.Epochs(config, c.img); !slices.Equal(l, []uint32{0, 7, 300, 1<<32 - 1}) || e != api.OK {
		t.Errorf("P19.3: Epochs: %v, %d", l, e)
	}
	sound(t, "many epochs", config, c.img)
}
