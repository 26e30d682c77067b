package disk

import (
	"go/ast"
	"go/parser"
	"go/token"
	"os"
	"runtime"
	"slices"
	"strings"
	"testing"

	"ferrule/api"
	"ferrule/dev"
	"ferrule/model"
)

// The signatures are fixed by chapter 24, and both disks are such a Disk.
var (
	_ func(Disk) string                            = Kind
	_ func(Disk) (*dev.Device, bool)               = Device
	_ func(Disk) *dev.Device                       = Must
	_ func(Disk) int                               = Sectors
	_ func(Disk, Disk, int, int, int) api.Errno    = Copy
	_ func(Disk, Disk, int, int) (bool, api.Errno) = Same
	_ func(Disk, int, int, string) api.Errno       = Fill
	_ Disk                                         = (*dev.Device)(nil)
	_ Disk                                         = (*model.Array)(nil)
	_ func(Disk, int, int) (string, api.Errno)     = Disk.Read
	_ func(Disk, int, int, string) api.Errno       = Disk.Write
	_ func(Disk, int, int) api.Errno               = Disk.Trim
	_ func(Disk) string                            = Disk.Content
)

// wrapped, embedded and held have all methods of another disk, and are none of these.
type (
	wrapped  struct{ Disk }
	embedded struct{ *dev.Device }
	held     struct{ *model.Array }
)

// P24.1: Kind, Device and Must, with the power on and off.
func TestKinds(t *testing.T) {
	a := array(t, 4)
	one, table, dark := formatted(t, example), formatted(t, bothKinds(example)[1]), off(t, example)
	again := opened(t, one)
	for i, k := range []struct {
		d      Disk
		kind   string
		device *dev.Device
	}{
		{one, "device", one},
		{table, "device", table},
		{dark, "device", dark},
		{again, "device", again},
		{a, "array", nil},
		{a.Copy(), "array", nil},
		{wrapped{one}, "other", nil},
		{&wrapped{one}, "other", nil},
		{wrapped{a}, "other", nil},
		{embedded{one}, "other", nil},
		{&embedded{dark}, "other", nil},
		{held{a}, "other", nil},
		{&held{a}, "other", nil},
		{&mine{}, "other", nil},
	} {
		if got := Kind(k.d); got != k.kind {
			t.Errorf("P24.1: %d: Kind of %T: %s, want %s", i, k.d, got, k.kind)
		}
		if got, ok := Device(k.d); got != k.device || ok != (k.device != nil) {
			t.Errorf("P24.1: %d: Device of %T: %p, %v; want %p", i, k.d, got, ok, k.device)
		}
		wantMust(t, k.d, k.device)
	}
}

// wantMust asks for the device itself, or (nil) for a panic by a type assertion.
func wantMust(t *testing.T, d Disk, want *dev.Device) {
	t.Helper()
	defer func() {
		t.Helper()
		said := recover()
		if _, ok := said.(*runtime.TypeAssertionError); ok != (want == nil) {
			t.Errorf("P24.1: Must of %T panics with %v", d, said)
		}
	}()
	if got := Must(d); want == nil || got != want {
		t.Errorf("P24.1: Must of %T: %p, want %p", d, got, want)
	}
}

// P24.1: the device that Device and Must tell is the one that was handed in.
func TestTheDeviceItself(t *testing.T) {
	d := formatted(t, example)
	x, _ := Device(d)
	x.Write(3, 1, "ab")
	Must(d).Write(4, 1, "c")
	if s, e := d.Read(3, 2); s != "ab"+noughts(1)[2:]+"c"+noughts(1)[1:] || e != api.OK {
		t.Errorf("P24.1: %q, %d", s, e)
	}
}

// P24.1: Sectors of arrays of each capacity, and of devices, whatever their power.
func TestSectors(t *testing.T) {
	for n := 1; n <= api.MaxCapacity; n++ {
		a := array(t, n)
		if got := Sectors(a); got != n {
			t.Errorf("P24.1: Sectors of an array of %d: %d", n, got)
		}
		if got := Sectors(held{a}); got != n {
			t.Errorf("P24.1: Sectors of another disk of %d: %d", n, got)
		}
	}
	for _, c := range configs() {
		for _, c := range bothKinds(c) {
			on, dark := formatted(t, c), off(t, c)
			if Sectors(on) != c.Capacity || Sectors(dark) != c.Capacity || Sectors(written(t, on, 1)) != c.Capacity {
				t.Errorf("P24.1: Sectors of devices of %d: %d, off %d", c.Capacity, Sectors(on), Sectors(dark))
			}
			if Sectors(wrapped{on}) != c.Capacity || Sectors(embedded{on}) != c.Capacity {
				t.Errorf("P24.1: Sectors of other disks of %d: %d, %d", c.Capacity, Sectors(wrapped{on}), Sectors(embedded{on}))
			}
			// Of another disk it is the Content alone that counts.
			if Sectors(wrapped{dark}) != 0 || Sectors(&embedded{dark}) != 0 {
				t.Errorf("P24.1: Sectors of other disks with no Content: %d, %d", Sectors(wrapped{dark}), Sectors(&embedded{dark}))
			}
		}
	}
}

// P24.1: Sectors of a disk of the tests' own, with Content of any length.
func TestSectorsOfOther(t *testing.T) {
	for n := range 300 {
		for _, fill := range []string{"\x00", "x"} {
			m := &mine{content: strings.Repeat(fill, n)}
			if got := Sectors(m); got != n/32 {
				t.Errorf("P24.1: Sectors of %d bytes: %d", n, got)
			}
			if m.reads != 0 || m.all != nil || m.content != strings.Repeat(fill, n) {
				t.Errorf("P24.1: Sectors does more than to look")
			}
		}
	}
	for n, want := range map[int]int{512*32 - 1: 511, 512 * 32: 512, 513*32 - 1: 512, 513 * 32: 513, 1<<20 + 31: 1 << 15} {
		if got := Sectors(&mine{content: strings.Repeat("x", n)}); got != want {
			t.Errorf("P24.1: Sectors of %d bytes: %d", n, got)
		}
	}
}

// P24.1, R3: looking changes nothing.
func TestLooking(t *testing.T) {
	d := written(t, formatted(t, example), 2)
	was, stat := d.Image(), d.Stat()
	Kind(d)
	Device(d)
	Must(d)
	Sectors(d)
	if d.Stat() != stat || !slices.Equal(d.Image(), was) || !d.Power() {
		t.Errorf("P24.1: what asks which disk it is changes it")
	}
}

// The examples of chapter 24.
func TestExamples(t *testing.T) {
	for _, c := range bothKinds(example) {
		a, d := array(t, 4), formatted(t, c)
		if Kind(a) != "array" || Kind(d) != "device" || Sectors(a) != 4 || Sectors(d) != 48 {
			t.Errorf("P24.1: %s, %s; %d, %d", Kind(a), Kind(d), Sectors(a), Sectors(d))
		}
		if e := Fill(a, 0, 1, "abc"); e != api.OK || a.Content() != "abcabcabcabcabcabcabcabcabcabcab"+noughts(3) {
			t.Errorf("P24.2: Fill: %d, %q", e, a.Content())
		}
		if e := Copy(a, d, 0, 2, 40); e != api.OK || d.Content() != noughts(40)+a.Content()[:64]+noughts(6) {
			t.Errorf("P24.2: Copy: %d, %q", e, d.Content())
		}
		if same, e := Same(a, d, 0, 2); same || e != api.OK {
			t.Errorf("P24.2: Same: %v, %d", same, e)
		}
	}
}

// source parses the package's own files, without its tests.
func source(t *testing.T) []*ast.File {
	t.Helper()
	entries, err := os.ReadDir(".")
	if err != nil {
		t.Fatal(err)
	}
	var l []*ast.File
	for _, entry := range entries {
		name := entry.Name()
		if !strings.HasSuffix(name, ".go") || strings.HasSuffix(name, "_test.go") {
			continue
		}
		f, err := parser.ParseFile(token.NewFileSet(), name, nil, 0)
		if err != nil {
			t.Fatal(err)
		}
		l = append(l, f)
	}
	if len(l) == 0 {
		t.Fatal("no file of the package was looked at")
	}
	return l
}

// Chapter 24: the package calls dev and model.
func TestCallsNoOtherLayer(t *testing.T) {
	for _, f := range source(t) {
		for _, spec := range f.Imports {
			path := strings.Trim(spec.Path.Value, `"`)
			if strings.HasPrefix(path, "ferrule/") && !slices.Contains([]string{"ferrule/api", "ferrule/dev", "ferrule/model"}, path) {
				t.Errorf("the package imports %s", path)
			}
		}
	}
}

// Chapter 24, 'Ways': a type assertion with two values, one that panics, a type switch.
func TestWays(t *testing.T) {
	two, all, switches := 0, 0, 0
	for _, f := range source(t) {
		ast.Inspect(f, func(n ast.Node) bool {
			switch x := n.(type) {
			case *ast.AssignStmt:
				if _, ok := x.Rhs[0].(*ast.TypeAssertExpr); ok && len(x.Lhs) == 2 {
					two++
				}
			case *ast.TypeAssertExpr:
				if x.Type != nil {
					all++
				}
			case *ast.TypeSwitchStmt:
				switches++
			}
			return true
		})
	}
	if two < 1 || all-two < 1 || switches < 1 {
		t.Errorf("P24.1: %d assertions with two values, %d that panic, %d type switches", two, all-two, switches)
	}
}
