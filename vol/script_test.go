package vol

import (
	"fmt"
	"slices"
	"strconv"
	"strings"
	"sync"
	"sync/atomic"
	"testing"

	"ferrule/api"
	"ferrule/dev"
	"ferrule/disk"
)

// call is one of a script's calls.
type call struct {
	what     string
	name, to string
	at, n    int
	data     string
}

func (c call) String() string {
	return fmt.Sprintf("%s %.40q %.40q %d %d %.40q", c.what, c.name, c.to, c.at, c.n, c.data)
}

// answer is what a call answers.
type answer struct {
	bytes string
	e     api.Errno
}

func (a answer) String() string { return fmt.Sprintf("%.80q, %d", a.bytes, a.e) }

func (c call) on(s *Store) (a answer) {
	switch c.what {
	case "create":
		a.e = s.Create(c.name, c.n)
	case "delete":
		a.e = s.Delete(c.name)
	case "rename":
		a.e = s.Rename(c.name, c.to)
	case "clone":
		a.e = s.Clone(c.name, c.to)
	case "read":
		a.bytes, a.e = s.Read(c.name, c.at, c.n)
	case "write":
		a.e = s.Write(c.name, c.at, c.n, c.data)
	}
	return a
}

func (c call) onPlain(p *plain) (a answer) {
	switch c.what {
	case "create":
		a.e = p.create(c.name, c.n)
	case "delete":
		a.e = p.delete(c.name)
	case "rename":
		a.e = p.rename(c.name, c.to)
	case "clone":
		a.e = p.clone(c.name, c.to)
	case "read":
		a.bytes, a.e = p.read(c.name, c.at, c.n)
	case "write":
		a.e = p.writeTo(c.name, c.at, c.n, c.data)
	}
	return a
}

// names are most of those that scripts use; some may not be.
var names = []string{"a", "b", "c", "\u00e9", "e\u0301", "\U0001f600", "0123456789abcdef", "\ufffd", "a", "b", "c", "d", "e", "f", "g", "h"}

var badNames = []string{"", " ", "a b", "0123456789abcdefg", "\x7f", "\xff", "\xc3", "a\x00", "\u00e9\x80"}

// script rolls calls; it looks at the plain form, so that most of them are well.
type script struct {
	dice
	p *plain
}

func (s *script) name() string {
	if s.roll(25) == 0 {
		return pick(&s.dice, badNames)
	}
	return pick(&s.dice, names)
}

// known is a volume's name most often.
func (s *script) known() string {
	l := s.p.all()
	if len(l) == 0 || s.roll(10) == 0 {
		return s.name()
	}
	return pick(&s.dice, l).Name
}

func (s *script) next() call {
	c := call{what: pick(&s.dice, []string{"create", "create", "create", "delete", "delete", "rename", "clone", "clone", "read", "read", "write", "write", "write", "write"}), name: s.known(), to: s.name()}
	if c.what == "create" {
		c.name, c.to = s.name(), ""
		c.n = 1 + s.roll(pick(&s.dice, []int{2, 4, 8, 16}))
	}
	if c.what == "read" || c.what == "write" {
		c.to = ""
		size := 1
		if i := s.p.number(c.name); i >= 0 {
			size = s.p.volumes[i].Len
		}
		c.at = s.roll(size)
		c.n = 1 + s.roll(size-c.at)
		if s.roll(4) == 0 {
			c.at, c.n = 0, size
		}
	}
	if c.what == "write" {
		c.data = s.text(pick(&s.dice, []int{0, 1, 31, 32, 33, 32*c.n - 1, 32 * c.n, 32*c.n + 1, 32 * c.n}))
	}
	switch s.roll(30) {
	case 0:
		c.n = pick(&s.dice, append([]int{0, 512, 513}, far...))
	case 1:
		c.at = pick(&s.dice, append([]int{c.at + 1, 8}, far...))
	}
	return c
}

// stores are Stores on disks of all kinds, with the disks.
type stores struct {
	disks  []disk.Disk
	stores []*Store
}

func newStores(t *testing.T, c api.Config, content string) *stores {
	t.Helper()
	l := &stores{}
	for _, m := range makers {
		d := m.make(t, c)
		must(t, d.Write(0, c.Capacity, content))
		l.disks = append(l.disks, d)
		l.stores = append(l.stores, open(t, d))
	}
	return l
}

// hold makes a call on all of them, and holds them against a plain form.
func (l *stores) hold(t *testing.T, c call, want answer, p *plain) {
	t.Helper()
	for i, s := range l.stores {
		if got := c.on(s); got != want {
			t.Fatalf("P25: %s: %v: %v; want %v", makers[i].name, c, got, want)
		}
		if got := l.disks[i].Content(); got != p.content {
			t.Fatalf("P25: %s: behind %v the disk is %q, want %q", makers[i].name, c, got, p.content)
		}
		if !slices.Equal(s.Volumes(), p.all()) || s.Free() != p.free() {
			t.Fatalf("P25.1: %s: behind %v: %v, %d; want %v, %d", makers[i].name, c, s.Volumes(), s.Free(), p.all(), p.free())
		}
	}
}

// anew opens one of them anew, or all.
func (l *stores) anew(t *testing.T, which int, p *plain) {
	t.Helper()
	for i, d := range l.disks {
		if i != which && which >= 0 {
			continue
		}
		l.stores[i] = open(t, d)
		if s := l.stores[i]; !slices.Equal(s.Volumes(), p.all()) || s.Free() != p.free() {
			t.Fatalf("P25.1: %s: opened anew: %v, %d; want %v, %d", makers[i].name, s.Volumes(), s.Free(), p.all(), p.free())
		}
	}
}

// begun is what a script's disks hold at first: noughts, or any bytes and some volumes,
// but no entry that is free for one ahead of it alone (what that comes to is not said).
func begun(d *dice, sectors int) string {
	if d.roll(3) == 0 {
		return noughts(sectors)
	}
	for {
		content := rolledEntries(d, sectors) + d.text(32*(sectors-8))
		if plainOpen(content).stale == 0 {
			return content
		}
	}
}

// P25.1 to P25.6: rolled calls on disks of all kinds, held against a plain form byte by
// byte, and against each other; Stores are opened anew on the way.
func TestScripts(t *testing.T) {
	var calls tally
	t.Run("all", func(t *testing.T) {
		for seed := range 40 {
			t.Run(strconv.Itoa(seed), func(t *testing.T) {
				t.Parallel()
				c := configs()[seed%4]
				d := dice{uint64(seed)}
				content := begun(&d, c.Capacity)
				s := &script{d, plainOpen(content)}
				l := newStores(t, c, content)
				for range 250 {
					x := s.next()
					want := x.onPlain(s.p)
					l.hold(t, x, want, s.p)
					if s.roll(9) == 0 {
						l.anew(t, s.roll(6)-1, s.p)
					}
					calls.add(fmt.Sprint(x.what, " ", int(want.e)))
				}
				runs, flat := disk.Must(l.disks[0]), disk.Must(l.disks[1])
				if !slices.Equal(runs.Image(), flat.Image()) {
					t.Errorf("T2: the flash of the two devices is not alike")
				}
			})
		}
	})
	for _, what := range []string{
		"create 0", "delete 0", "rename 0", "clone 0", "read 0", "write 0",
		"create 1", "rename 1", "clone 1", "read 1", "write 1",
		"create 8", "rename 8", "clone 8", "create 5", "clone 5",
		"delete 4", "rename 4", "clone 4", "read 4", "write 4",
	} {
		if calls.counts[what] < 15 {
			t.Errorf("the tests' own scripts: the call and the error %s: %d times", what, calls.counts[what])
		}
	}
}

// tally counts what comes how often.
type tally struct {
	lock   sync.Mutex
	counts map[string]int
}

func (l *tally) add(what string) {
	l.lock.Lock()
	defer l.lock.Unlock()
	if l.counts == nil {
		l.counts = map[string]int{}
	}
	l.counts[what]++
}

// T10, T2: rolled calls on a device on runs and a flat one that are cut alike now and
// then: behind a mount both tell the same, the volumes as before or after the call.
func TestScriptsWithCuts(t *testing.T) {
	var before atomic.Int32
	t.Run("all", func(t *testing.T) {
		for seed := range 24 {
			t.Run(strconv.Itoa(seed), func(t *testing.T) {
				t.Parallel()
				c := configs()[seed%4]
				s := &script{dice{uint64(500 + seed)}, plainOpen(noughts(c.Capacity))}
				devices := []*dev.Device{formatted(t, c), formatted(t, bothKinds(c)[1])}
				l := []*Store{open(t, devices[0]), open(t, devices[1])}
				for range 250 {
					x, k := s.next(), s.roll(120)
					if s.roll(3) > 0 {
						k = -1
					}
					was := plainOpen(s.p.content)
					want := x.onPlain(s.p)
					for i, d := range devices {
						d.Cut(k)
						if got := x.on(l[i]); got != want && (got != answer{e: api.EOFF} || d.Power()) {
							t.Fatalf("P25: %v: %v, want %v", x, got, want)
						}
					}
					if devices[0].Power() != devices[1].Power() {
						t.Fatalf("T2: %v: one device is off, the other one is not", x)
					}
					if !devices[0].Power() {
						for i, d := range devices {
							must(t, d.Mount(-1))
							l[i] = open(t, d)
						}
						switch view(l[0]) {
						case plainView(was):
							before.Add(1)
						case plainView(s.p):
						default:
							t.Fatalf("T10: %v cut at %d: %s, neither %s nor %s", x, k, view(l[0]), plainView(was), plainView(s.p))
						}
						// What sectors without a volume hold may be either way.
						s.p = plainOpen(devices[0].Content())
					}
					if devices[0].Content() != s.p.content || devices[1].Content() != s.p.content {
						t.Fatalf("T2: behind %v: %q and %q, want %q", x, devices[0].Content(), devices[1].Content(), s.p.content)
					}
					if view(l[0]) != plainView(s.p) || view(l[1]) != plainView(s.p) {
						t.Fatalf("P25: behind %v: %s and %s, want %s", x, view(l[0]), view(l[1]), plainView(s.p))
					}
				}
			})
		}
	})
	if before.Load() < 300 {
		t.Errorf("the tests' own scripts: %d calls were cut and not done", before.Load())
	}
}

// plainView is what `view` tells, of a plain form.
func plainView(p *plain) string {
	var b strings.Builder
	fmt.Fprintln(&b, p.free())
	for _, v := range p.all() {
		fmt.Fprintf(&b, "%v %d %q\n", v, api.OK, p.content[32*v.First:32*(v.First+v.Len)])
	}
	return b.String()
}

// P25.6: at every moment of long rows of calls no two volumes share a sector, or a
// name, all have names that may be, and what has no volume is free.
func TestVolumesShareNothing(t *testing.T) {
	d := dice{9}
	for range 30 {
		sectors := 9 + d.roll(60)
		m := &mine{content: begun(&d, sectors), left: -1}
		s, r := open(t, m), &script{d, plainOpen(m.content)}
		for range 200 {
			x := r.next()
			x.on(s)
			x.onPlain(r.p)
			owner, seen := make([]bool, sectors), map[string]int{}
			free := sectors - 8
			for _, v := range s.Volumes() {
				seen[v.Name]++
				if !plainGood(v.Name) || seen[v.Name] > 1 || v.First < 8 || v.Len < 1 || v.First+v.Len > sectors {
					t.Fatalf("P25.6: behind %v: %v", x, s.Volumes())
				}
				for lba := v.First; lba < v.First+v.Len; lba++ {
					if owner[lba] {
						t.Fatalf("P25.6: behind %v two volumes have the sector %d: %v", x, lba, s.Volumes())
					}
					owner[lba] = true
				}
				free -= v.Len
			}
			if s.Free() != free {
				t.Fatalf("P25.1: behind %v: Free: %d, want %d", x, s.Free(), free)
			}
		}
		d = r.dice
	}
}
