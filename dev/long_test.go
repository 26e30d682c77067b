package dev_test

import (
	"bytes"
	"slices"
	"testing"

	"ferrule/api"
	"ferrule/blocks"
	"ferrule/dev"
	"ferrule/model"
	"ferrule/size"
)

// long plays some thousands of commands, of the moods that are hardest, with no cut.
func long(t *testing.T, c api.Config, steps int) dev.Work {
	t.Helper()
	d := format(t, c)
	array, _ := model.New(c.Capacity)
	s := newScript(c, 11, 2)
	for i := range steps {
		if s.left == 0 {
			s.change([]int{cold, ragged, cold, sweeping, anyhow}[s.roll(5)])
		}
		x := s.next()
		was := d.Stat()
		var e api.Errno
		if x.trim {
			e = d.Trim(x.lba, x.n)
			array.Trim(x.lba, x.n)
		} else {
			e = d.Write(x.lba, x.n, x.data)
			array.Write(x.lba, x.n, x.data)
		}
		if e != api.OK {
			t.Fatalf("T5: command %d, (%d, %d), is refused: %d", i, x.lba, x.n, e)
		}
		l := d.Runs()
		if parts, e := blocks.Split(l, c.Pages); e != api.OK || len(parts) > c.MaxRuns {
			t.Fatalf("T5: behind command %d there are %d runs, cut where blocks end", i, len(parts))
		}
		if most, _ := size.CallPrograms(c, x.n, 0); d.Stat().Programs-was.Programs > most {
			t.Fatalf("T6: command %d programs %d pages, at most %d", i, d.Stat().Programs-was.Programs, most)
		}
		if i%40 == 0 && d.Content() != array.Content() {
			t.Fatalf("T1, T4: behind command %d the content is another one", i)
		}
	}
	work, img := d.Work(), d.Image()
	if d.Content() != array.Content() {
		t.Fatalf("T1, T4: at the end the content is another one")
	}
	if e := d.Mount(-1); e != api.OK || d.Content() != array.Content() {
		t.Fatalf("T1: behind a mount the content is another one: %d", e)
	}
	if o := open(t, c, img); o.Content() != array.Content() {
		t.Fatalf("T9: opened anew the content is another one")
	}
	return work
}

// T1, T4, T5, T6: thousands of scattered writes and trims, at Configs that may just be.
func TestLong(t *testing.T) {
	var sum [4]int
	t.Run("all", func(t *testing.T) {
		results := make(chan dev.Work, 100)
		t.Cleanup(func() {
			close(results)
			for w := range results {
				sum[0] += w.Records
				sum[1] += w.Snapshots
				sum[2] += w.Collections
				sum[3] += w.Rewrites
			}
		})
		for _, c := range slices.Concat(small(), great()) {
			t.Run(name(c), func(t *testing.T) {
				t.Parallel()
				steps := 4000
				if c.Blocks*c.Pages > 500 {
					steps = 2500
				}
				results <- long(t, c, steps)
			})
		}
	})
	for i, n := range sum {
		if n < 100 {
			t.Errorf("the scripts are too tame: number %d of Work's is %d", i, n)
		}
	}
}

// P18.5: of a call that ends each record is the command's own, or that of a block
// that was collected, or of a window that was written anew; each of these comes
// often, where runs are many and blocks keep little.
func TestWork(t *testing.T) {
	c := api.Config{Blocks: 36, Pages: 8, Capacity: 48, Spare: 2, MaxRuns: 46, Window: 8}
	d := format(t, c)
	s := newScript(c, 5, 2)
	var most dev.Work
	for i := range 6000 {
		if s.left == 0 {
			s.change([]int{cold, ragged}[s.roll(2)])
		}
		was := d.Work()
		x := s.next()
		if e := d.Write(x.lba, x.n, x.data); e != api.OK {
			t.Fatalf("T5: write %d: %d", i, e)
		}
		now := d.Work()
		if now.Records-was.Records != 1+now.Collections-was.Collections+now.Rewrites-was.Rewrites {
			t.Fatalf("P18.5: write %d: %v, %v", i, was, now)
		}
		most = dev.Work{
			Records:     most.Records + now.Records - was.Records,
			Snapshots:   max(most.Snapshots, now.Snapshots),
			Collections: max(most.Collections, now.Collections),
			Rewrites:    max(most.Rewrites, now.Rewrites),
		}
		if i%1500 == 1499 {
			if d.Mount(-1); d.Work() != (dev.Work{}) {
				t.Errorf("P18.5: behind a mount: %v", d.Work())
			}
		}
	}
	if most.Records < 6000 || most.Snapshots < 50 || most.Collections < 3 || most.Rewrites < 10 {
		t.Errorf("P18.5: at most %v", most)
	}
}

// P18.7, T2: two devices of one Config that are told the same are the same, and so
// is the flat one, with cuts and failures, too.
func TestAlike(t *testing.T) {
	for i, c := range []api.Config{example, tight(40, 4, 4, 4), tight(32, 8, 1, 8), great()[1]} {
		l := []*dev.Device{format(t, c), format(t, c), format(t, flat(c))}
		s := newScript(c, 21+i, 4)
		for k := range 500 {
			x := s.next()
			what, number := s.roll(30), s.roll(300)
			var answers []api.Errno
			for _, d := range l {
				switch {
				case what == 0:
					d.Cut(number)
				case what == 1 && k%100 < 5:
					d.Fail(number / 30)
				case what == 2 || !d.Power():
					answers = append(answers, d.Mount(number-200))
				case x.trim:
					answers = append(answers, d.Trim(x.lba, x.n))
				default:
					answers = append(answers, d.Write(x.lba, x.n, x.data))
				}
			}
			for j, d := range l {
				if answers != nil && answers[j] != answers[0] {
					t.Fatalf("T2, P18.7: call %d: %v", k, answers)
				}
				if !alike(l[0], d) {
					t.Fatalf("T2, P18.7: call %d: device %d is another one", k, j)
				}
			}
			content := l[0].Content()
			for j, d := range l[1:] {
				if d.Content() != content || d.Stat() != l[0].Stat() {
					t.Fatalf("T2, P18.7: call %d: device %d: %v, %v", k, j+1, d.Stat(), l[0].Stat())
				}
			}
		}
	}
}

// alike tells whether two devices show the same, but for their contents (reading
// one would count) and what their maps are kept in.
func alike(a, b *dev.Device) bool {
	return a.Power() == b.Power() && slices.Equal(a.Runs(), b.Runs()) && a.Work() == b.Work() &&
		slices.Equal(a.Wear(), b.Wear()) && bytes.Equal(a.Image(), b.Image())
}
