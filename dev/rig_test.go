package dev_test

import (
	"bytes"
	"fmt"
	"math"
	"slices"
	"strings"
	"testing"

	"ferrule/api"
	"ferrule/blocks"
	"ferrule/dev"
	"ferrule/model"
	"ferrule/size"
	"ferrule/span"
)

// dice roll numbers, the same ones for the same seed.
type dice struct{ state uint64 }

func (d *dice) roll(n int) int {
	d.state = d.state*6364136223846793005 + 1442695040888963407
	return int(d.state>>33) % n
}

// text rolls bytes, noughts and bytes 255 among them.
func (d *dice) text(n int) string {
	b := make([]byte, n)
	for i := range b {
		b[i] = "\x00\x01aZ\x7f\x80\xfe\xff"[d.roll(8)]
	}
	return string(b)
}

// data rolls a write's data: none, less, just as much, or more.
func (d *dice) data(n int) string {
	switch d.roll(6) {
	case 0:
		return ""
	case 1:
		return d.text(d.roll(n * 32))
	case 2:
		return d.text(n*32 + 1 + d.roll(40))
	}
	return d.text(n * 32)
}

// numbers are what stands for a wrong number somewhere.
var numbers = []int{
	math.MinInt, math.MinInt + 1, -1 << 32, -1 << 31, -513, -2, -1,
	513, 1 << 16, 1<<31 - 1, 1 << 31, 1 << 32, 1<<32 + 1, 1 << 62, math.MaxInt - 1, math.MaxInt,
}

// example is the Config of chapter 18's examples.
var example = api.Config{Blocks: 40, Pages: 8, Capacity: 48, Spare: 2, MaxRuns: 48, Window: 8}

// leastRuns gives a Config the least MaxRuns with which it may be.
func leastRuns(c api.Config) api.Config {
	for c.MaxRuns = 1; c.MaxRuns < api.MaxRuns && !size.Good(c); c.MaxRuns++ {
	}
	return c
}

// tight gives a Config of so many blocks the greatest capacity with which it may be
// with the least MaxRuns.
func tight(blocks, pages, spare, window int) api.Config {
	best := api.Config{}
	for n := window; n <= api.MaxCapacity; n++ {
		c := leastRuns(api.Config{Blocks: blocks, Pages: pages, Capacity: n, Spare: spare, Window: window})
		if size.Good(c) {
			best = c
		}
	}
	return best
}

// least gives the Config with the fewest blocks that may be, of a capacity of at
// least one window.
func least(pages, spare, window int) api.Config {
	for b := 8; b <= api.MaxBlocks; b++ {
		if c := tight(b, pages, spare, window); size.Good(c) {
			return c
		}
	}
	return api.Config{}
}

// greatest gives a Config the capacity that size's Greatest tells.
func greatest(c api.Config) api.Config {
	c.Capacity, _ = size.Greatest(c)
	return c
}

// small are Configs of which a flash is gone through quickly.
func small() []api.Config {
	return []api.Config{
		example,
		{Blocks: 36, Pages: 8, Capacity: 48, Spare: 2, MaxRuns: 46, Window: 8},
		least(4, 0, 1), least(4, 4, 4), least(8, 2, 8), least(5, 1, 5), least(8, 0, 1),
		tight(40, 4, 0, 4), tight(40, 4, 4, 4), tight(32, 8, 1, 8), tight(36, 5, 2, 5),
		greatest(api.Config{Blocks: 40, Pages: 4, Spare: 1, MaxRuns: 60, Window: 3}),
	}
}

// great are Configs at the ends of the limits.
func great() []api.Config {
	return []api.Config{
		greatest(api.Config{Blocks: 64, Pages: 4, Spare: 4, MaxRuns: 200, Window: 2}),
		greatest(api.Config{Blocks: 64, Pages: 32, Spare: 0, MaxRuns: 120, Window: 20}),
		tight(64, 4, 0, 1), tight(64, 8, 4, 8), tight(64, 32, 0, 32), tight(64, 32, 4, 32), tight(64, 16, 2, 9),
	}
}

func name(c api.Config) string {
	return fmt.Sprintf("%d-%d-%d-%d-%d-%d", c.Blocks, c.Pages, c.Capacity, c.Spare, c.MaxRuns, c.Window)
}

func noughts(sectors int) string { return strings.Repeat("\x00", 32*sectors) }

func flat(c api.Config) api.Config {
	c.Flat = true
	return c
}

func format(t *testing.T, c api.Config) *dev.Device {
	t.Helper()
	d, e := dev.Format(c)
	if d == nil || e != api.OK {
		t.Fatalf("P18.1: Format(%v): %d", c, e)
	}
	return d
}

func open(t *testing.T, c api.Config, img []byte) *dev.Device {
	t.Helper()
	d, e := dev.Open(c, img, -1)
	if d == nil || e != api.OK {
		t.Fatalf("P18.1: Open of %v: %d", c, e)
	}
	return d
}

// rig is a device on runs, its twin on a flat table, one that was opened over an
// image of the first, and the array that all of them must show. What is told is
// told to all.
type rig struct {
	t       *testing.T
	config  api.Config
	sizes   size.Sizes
	devices [3]*dev.Device
	array   *model.Array
	after   *model.Array // behind the command that was cut, till a mount shows which it is
	reader  reader
	told    told     // what the flash told at the last check
	work    dev.Work // and what Work was
	rows    []string // what was told
}

func newRig(t *testing.T, c api.Config) *rig {
	t.Helper()
	c.Flat = false
	r := &rig{t: t, config: c}
	r.devices = [3]*dev.Device{format(t, c), format(t, flat(c)), nil}
	var e api.Errno
	if r.array, e = model.New(c.Capacity); e != api.OK {
		t.Fatalf("the array: %d", e)
	}
	if r.sizes, e = size.Of(c); e != api.OK {
		t.Fatalf("the sizes: %d", e)
	}
	r.begin()
	r.reopen()
	r.check()
	return r
}

// begin looks at what has been written ahead of all that is told.
func (r *rig) begin() {
	r.t.Helper()
	var why string
	if r.told, why = r.reader.read(r.config, r.one().Image()); why != "" {
		r.fatal("T7: %s", why)
	}
	if w := r.one().Work(); w != (dev.Work{}) {
		r.fatal("P18.5: Work at the beginning: %v", w)
	}
}

// resume makes a rig of an image, in a state in which the array is as given.
func resume(t *testing.T, c api.Config, img []byte, array *model.Array) *rig {
	t.Helper()
	c.Flat = false
	r := &rig{t: t, config: c, array: array.Copy()}
	r.sizes, _ = size.Of(c)
	for i := range r.devices {
		r.devices[i] = open(t, r.configOf(i), img)
	}
	r.begin()
	return r
}

func (r *rig) configOf(i int) api.Config {
	if i == 1 {
		return flat(r.config)
	}
	return r.config
}

// one is the first of the devices.
func (r *rig) one() *dev.Device { return r.devices[0] }

// say keeps what is told, so that a failure tells how it came.
func (r *rig) say(format string, a ...any) { r.rows = append(r.rows, fmt.Sprintf(format, a...)) }

func (r *rig) fatal(format string, a ...any) {
	r.t.Helper()
	last := r.rows[max(0, len(r.rows)-12):]
	r.t.Fatalf("%s; %d told, the last: %s", fmt.Sprintf(format, a...), len(r.rows), strings.Join(last, "; "))
}

// reopen opens the third device anew, over the image of the first. Nothing may be
// set then: an image does not tell it.
func (r *rig) reopen() {
	r.t.Helper()
	r.cut(-1)
	r.fail(-1)
	r.say("reopen")
	d, e := dev.Open(r.config, r.one().Image(), -1)
	if d == nil || e != api.OK {
		r.fatal("T9: Open: %d", e)
	}
	if !r.one().Power() {
		// It has been mounted, so the others are, too.
		r.mount(-1)
	}
	r.devices[2] = d
}

func (r *rig) cut(k int) {
	r.say("cut %d", k)
	for _, d := range r.devices {
		if d != nil {
			d.Cut(k)
		}
	}
}

func (r *rig) fail(k int) {
	r.say("fail %d", k)
	for _, d := range r.devices {
		if d != nil {
			d.Fail(k)
		}
	}
}

// all does a call on all devices: they must answer alike.
func (r *rig) all(call func(d *dev.Device) api.Errno) api.Errno {
	r.t.Helper()
	e := call(r.devices[0])
	for i, d := range r.devices[1:] {
		if d == nil {
			continue
		}
		if f := call(d); f != e {
			r.fatal("T2, T9: device %d answers %d, the first one %d", i+1, f, e)
		}
	}
	return e
}

func (r *rig) write(lba, n int, data string) api.Errno {
	r.t.Helper()
	r.say("write %d %d", lba, n)
	after := r.array.Copy()
	want := after.Write(lba, n, data)
	return r.change(n, want, after, func(d *dev.Device) api.Errno { return d.Write(lba, n, data) })
}

func (r *rig) trim(lba, n int) api.Errno {
	r.t.Helper()
	r.say("trim %d %d", lba, n)
	after := r.array.Copy()
	want := after.Trim(lba, n)
	return r.change(n, want, after, func(d *dev.Device) api.Errno { return d.Trim(lba, n) })
}

// change does a write or a trim that makes the array after, if it is not refused.
func (r *rig) change(n int, want api.Errno, after *model.Array, call func(d *dev.Device) api.Errno) api.Errno {
	r.t.Helper()
	was, work, img, power := r.one().Stat(), r.one().Work(), r.one().Image(), r.one().Power()
	if want == api.OK && !power {
		want = api.EOFF
	}
	e := r.all(call)
	if want != api.OK {
		if now := r.one().Stat(); e != want || now != was || r.one().Power() != power || !bytes.Equal(r.one().Image(), img) {
			r.fatal("P18.2, P18.7: %d, want %d; %v, %v", e, want, was, now)
		}
		return e
	}
	r.worked(n, was)
	r.recorded(e == api.OK, work)
	switch {
	case e == api.OK:
		r.array, r.after = after, nil
	case e == api.EOFF && !r.one().Power():
		r.after = after
	default:
		r.fatal("T1, T5: refused: %d, %d blocks bad", e, r.one().Stat().Bad)
	}
	return e
}

// worked holds the pages that a call has programmed against T6.
func (r *rig) worked(n int, was dev.Stat) {
	r.t.Helper()
	now := r.one().Stat()
	most, e := size.CallPrograms(r.config, n, now.Bad-was.Bad)
	if e != api.OK || now.Programs-was.Programs > most {
		r.fatal("T6: %d pages programmed, at most %d", now.Programs-was.Programs, most)
	}
	if now.Reads < was.Reads || now.Programs < was.Programs || now.Erases < was.Erases || now.Bad < was.Bad {
		r.fatal("P18.4: Stat falls: %v, %v", was, now)
	}
}

// recorded holds what a call has written whole against P18.5: each record is that of
// a block that was collected, of a window that was written anew, or the call's own.
func (r *rig) recorded(done bool, was dev.Work) {
	r.t.Helper()
	now := r.one().Work()
	own := now.Records - was.Records - (now.Collections - was.Collections) - (now.Rewrites - was.Rewrites)
	if done && own != 1 || !done && own != 0 {
		r.fatal("P18.5: %d records of its own: %v, %v", own, was, now)
	}
}

// read reads a range: it does no step.
func (r *rig) read(lba, n int) {
	r.t.Helper()
	r.say("read %d %d", lba, n)
	want, refused := r.array.Read(lba, n)
	if refused == api.OK && !r.one().Power() {
		want, refused = "", api.EOFF
	}
	for i, d := range r.devices {
		was := d.Stat()
		s, e := d.Read(lba, n)
		if s != want || e != refused {
			r.fatal("T1: device %d reads %q, %d, want %q, %d", i, s, e, want, refused)
		}
		if now := d.Stat(); now.Programs != was.Programs || now.Erases != was.Erases || refused != api.OK && now != was {
			r.fatal("P18.7: Read: %v, %v", was, now)
		}
	}
}

// mount mounts all. Behind it each device is the array before or after the command
// that was cut, and they are the same one.
func (r *rig) mount(cut int) api.Errno {
	r.t.Helper()
	r.say("mount %d", cut)
	r.checkFlash(r.one().Image())
	was := r.one().Stat().Reads
	e := r.all(func(d *dev.Device) api.Errno { return d.Mount(cut) })
	r.work = dev.Work{}
	if n := r.one().Stat().Reads - was; n > r.sizes.MountReads || n >= r.config.Blocks*r.config.Pages {
		r.fatal("T6: a mount reads %d pages, at most %d", n, r.sizes.MountReads)
	}
	if r.one().Power() != (e == api.OK) || e != api.OK && (e != api.EOFF || cut < 0) {
		r.fatal("P18.3: Mount(%d): %d, the power is %v", cut, e, r.one().Power())
	}
	if e == api.OK {
		r.settle()
	}
	return e
}

// settle finds which array it is, behind a command that was cut.
func (r *rig) settle() {
	// The twins must have read the same.
	content := r.one().Content()
	r.devices[1].Content()
	if r.after != nil && content == r.after.Content() {
		r.array = r.after
	}
	r.after = nil
}

// check holds all that can be asked against the array.
func (r *rig) check() {
	r.t.Helper()
	one := r.one()
	img := one.Image()
	for i, d := range r.devices {
		if d == nil {
			continue
		}
		if !bytes.Equal(img, d.Image()) {
			r.fatal("T2, T9: the flash of device %d is another one", i)
		}
		if d.Power() != one.Power() || d.Config() != r.configOf(i) || d.Stat().Bad != one.Stat().Bad {
			r.fatal("P18.4: device %d: Power, Config, Stat", i)
		}
		r.checkOne(d)
	}
	if one.Stat() != r.devices[1].Stat() || one.Work() != r.devices[1].Work() || !slices.Equal(one.Wear(), r.devices[1].Wear()) {
		r.fatal("T2: %v, %v; %v, %v", one.Stat(), r.devices[1].Stat(), one.Work(), r.devices[1].Work())
	}
	sum := 0
	for _, w := range one.Wear() {
		sum += w
	}
	if sum != one.Stat().Erases || len(one.Wear()) != r.config.Blocks {
		r.fatal("P18.4: Wear %v, %d erases", one.Wear(), one.Stat().Erases)
	}
	r.checkFlash(img)
}

// checkOne holds what a device shows against the array.
func (r *rig) checkOne(d *dev.Device) {
	r.t.Helper()
	if !d.Power() {
		if d.Content() != "" || d.Runs() != nil || d.Map() != nil {
			r.fatal("P18.4: with the power off: %q, %v, %v", d.Content(), d.Runs(), d.Map())
		}
		return
	}
	if d.Content() != r.array.Content() {
		r.fatal("T1: the content is another one")
	}
	l := d.Runs()
	parts, e := blocks.Split(l, r.config.Pages)
	if !span.Form(l) || len(l) > r.config.MaxRuns || e != api.OK || len(parts) > r.config.MaxRuns {
		r.fatal("T3, T5: runs %v, %d parts", l, len(parts))
	}
	m := d.Map()
	want := "runs"
	if d.Config().Flat {
		want = "flat"
	}
	if span.Kind(m) != want || m.Capacity() != r.config.Capacity || m.Most() != r.config.MaxRuns || !slices.Equal(m.Runs(), l) {
		r.fatal("P18.4: Map: %s, %d, %d", span.Kind(m), m.Capacity(), m.Most())
	}
	if want == "runs" {
		r.checkTree(m, len(l))
	}
}

// checkTree holds the tree and the arena of a map of runs against T3.
func (r *rig) checkTree(m span.Map, runs int) {
	r.t.Helper()
	a, tree := span.MustTree(m).Arena(), span.MustTree(m).Tree()
	seen := make([]bool, a.Size()+1)
	for _, id := range a.Free() {
		if seen[id] {
			r.fatal("T3: the node %d is twice in the free list", id)
		}
		seen[id] = true
	}
	height := map[uint32]int{}
	for _, v := range tree.Views() {
		if seen[v.Id] {
			r.fatal("T3: the node %d is live and free", v.Id)
		}
		seen[v.Id] = true
		height[v.Id] = v.Height
	}
	if slices.Contains(seen[1:], false) || a.Size() != r.config.MaxRuns || a.Live() != runs || tree.Len() != runs {
		r.fatal("T3: %d of %d nodes live, %d runs", a.Live(), a.Size(), runs)
	}
	for _, v := range tree.Views() {
		left, right := height[v.Left], height[v.Right]
		if v.Height != 1+max(left, right) || left-right > 1 || right-left > 1 {
			r.fatal("T3: the node %d is %d high, its branches %d and %d", v.Id, v.Height, left, right)
		}
	}
}

// checkFlash holds what the flash alone tells against the array, and what the
// device says that it has written against what stands there.
func (r *rig) checkFlash(img []byte) {
	r.t.Helper()
	now, why := r.reader.read(r.config, img)
	if why != "" {
		r.fatal("T7: %s", why)
	}
	if now.content != r.array.Content() && (r.after == nil || now.content != r.after.Content()) {
		r.fatal("T7: the flash tells another content")
	}
	if l := r.one().Runs(); l != nil && !slices.Equal(l, runsOf(now.pages)) {
		r.fatal("T7: the flash tells other runs")
	}
	// A mount reads no more than it may, because the log is never longer, and there
	// is never more than one epoch that was begun and is not whole.
	if now.logged > r.sizes.LogPages || now.above > 1 {
		r.fatal("T6: the log has %d pages, at most %d; %d epochs were begun", now.logged, r.sizes.LogPages, now.above)
	}
	work, was := r.one().Work(), r.work
	records, snapshots := work.Records-was.Records, work.Snapshots-was.Snapshots
	switch {
	case records < 0 || snapshots < 0 || work.Collections < was.Collections || work.Rewrites < was.Rewrites:
		r.fatal("P18.5: Work falls: %v, %v", was, work)
	case snapshots == 0 && (now.epoch != r.told.epoch || now.records != r.told.records+records):
		r.fatal("P18.5: %d records more: the epochs %d and %d have %d and %d", records, r.told.epoch, now.epoch, r.told.records, now.records)
	case snapshots > 0 && (now.epoch <= r.told.epoch || now.records > records):
		r.fatal("P18.5: %d snapshots and %d records more: the epochs %d and %d, which has %d", snapshots, records, r.told.epoch, now.epoch, now.records)
	}
	r.told, r.work = now, work
}
