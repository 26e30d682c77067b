package span

import (
	"go/ast"
	"go/parser"
	"go/token"
	"math"
	"os"
	"runtime"
	"slices"
	"strings"
	"testing"

	"ferrule/api"
	"ferrule/flat"
	"ferrule/runs"
)

// The signatures are fixed by chapter 10.
var (
	_ func(bool, int, int) (Map, api.Errno) = New
	_ func(Map) string                      = Kind
	_ func(Map) (*runs.Map, bool)           = Tree
	_ func(Map) (*flat.Map, bool)           = Flat
	_ func(Map) *runs.Map                   = MustTree
	_ func(Map, []api.Op) api.Errno         = Apply
	_ func(Map, Map) bool                   = Same
	_ func([]api.Run) bool                  = Form
	_ func([]api.Piece) []api.Run           = Fold
)

func TestNew(t *testing.T) {
	right := []int{1, 2, 48, 511, 512}
	wrong := []int{0, -1, 513, -512, 1 << 20, 1 << 32, 1<<32 + 1, math.MaxInt, math.MinInt}
	for _, capacity := range right {
		for _, most := range right {
			wantMade(t, capacity, most)
		}
		for _, number := range wrong {
			wantNone(t, capacity, number)
			wantNone(t, number, capacity)
		}
	}
	for _, capacity := range wrong {
		for _, most := range wrong {
			wantNone(t, capacity, most)
		}
	}
}

// wantMade asks for a map of each kind that maps nothing.
func wantMade(t *testing.T, capacity, most int) {
	t.Helper()
	for _, isFlat := range []bool{false, true} {
		m := made(t, isFlat, capacity, most)
		if _, ok := m.(*flat.Map); ok != isFlat {
			t.Errorf("P10.1: New(%v, %d, %d): %T", isFlat, capacity, most, m)
		}
		if _, ok := m.(*runs.Map); ok == isFlat {
			t.Errorf("P10.1: New(%v, %d, %d): %T", isFlat, capacity, most, m)
		}
		if m.Capacity() != capacity || m.Most() != most || m.Count() != 0 || len(m.Runs()) != 0 {
			t.Errorf("P10.1: New(%v, %d, %d): %d, %d, %v", isFlat, capacity, most, m.Capacity(), m.Most(), m.Runs())
		}
		if l, e := m.Range(0, capacity); !slices.Equal(l, pieceList(0, capacity, -1)) || e != api.OK {
			t.Errorf("P10.1: New(%v, %d, %d) maps %v, %d", isFlat, capacity, most, l, e)
		}
	}
}

// wantNone asks for a refusal: the Map itself is nil, and does not hold a nil pointer.
func wantNone(t *testing.T, capacity, most int) {
	t.Helper()
	for _, isFlat := range []bool{false, true} {
		if m, e := New(isFlat, capacity, most); m != nil || e != api.EARG {
			t.Errorf("P10.1: New(%v, %d, %d): %T, %d", isFlat, capacity, most, m, e)
		}
	}
}

// Two maps of New know nothing of each other.
func TestTwoMaps(t *testing.T) {
	for _, isFlat := range []bool{false, true} {
		one, two := made(t, isFlat, 9, 3), made(t, isFlat, 9, 3)
		if e := Apply(one, opList(0, 3, 10, 5, 2, 20)); e != api.OK {
			t.Fatalf("P10.2: Apply: %d", e)
		}
		if len(two.Runs()) != 0 || Same(one, two) {
			t.Errorf("P10.1: a change of one map shows in another: %v", two.Runs())
		}
	}
}

// embedded has the methods of a map of runs, and is none; held is likewise none that is flat.
type (
	embedded struct{ *runs.Map }
	held     struct{ *flat.Map }
)

func TestKinds(t *testing.T) {
	r, f := made(t, false, 4, 4), made(t, true, 4, 4)
	tree, table := r.(*runs.Map), f.(*flat.Map)
	for _, k := range []struct {
		m     Map
		kind  string
		tree  *runs.Map
		table *flat.Map
	}{
		{r, "runs", tree, nil},
		{f, "flat", nil, table},
		{tree, "runs", tree, nil},
		{table, "flat", nil, table},
		{mine{r}, "other", nil, nil},
		{mine{f}, "other", nil, nil},
		{&mine{r}, "other", nil, nil},
		{&mine{f}, "other", nil, nil},
		{embedded{tree}, "other", nil, nil},
		{&embedded{tree}, "other", nil, nil},
		{held{table}, "other", nil, nil},
		{plainOf(4, 4), "other", nil, nil},
	} {
		if got := Kind(k.m); got != k.kind {
			t.Errorf("P10.1: Kind of %T: %s, want %s", k.m, got, k.kind)
		}
		if got, ok := Tree(k.m); got != k.tree || ok != (k.tree != nil) {
			t.Errorf("P10.1: Tree of %T: %p, %v; want %p", k.m, got, ok, k.tree)
		}
		if got, ok := Flat(k.m); got != k.table || ok != (k.table != nil) {
			t.Errorf("P10.1: Flat of %T: %p, %v; want %p", k.m, got, ok, k.table)
		}
		wantMustTree(t, k.m, k.tree)
	}
}

// wantMustTree asks for the map itself, or (nil) for a panic by a type assertion.
func wantMustTree(t *testing.T, m Map, want *runs.Map) {
	t.Helper()
	defer func() {
		t.Helper()
		told := recover()
		if _, ok := told.(*runtime.TypeAssertionError); ok != (want == nil) {
			t.Errorf("P10.1: MustTree of %T panics with %v", m, told)
		}
	}()
	if got := MustTree(m); want == nil || got != want {
		t.Errorf("P10.1: MustTree of %T: %p, want %p", m, got, want)
	}
}

// The map that Tree, Flat and MustTree tell is the one that was handed in: what
// is set in one shows in the other.
func TestKindsShareTheMap(t *testing.T) {
	r, f := made(t, false, 4, 4), made(t, true, 4, 4)
	for _, m := range []Map{r, f} {
		if e := m.Set(1, 2, 5); e != api.OK {
			t.Fatalf("Set: %d", e)
		}
	}
	tree, _ := Tree(r)
	table, _ := Flat(f)
	if !slices.Equal(tree.Runs(), runList(1, 2, 5)) || !slices.Equal(table.Table(), []int{-1, 5, 6, -1}) {
		t.Errorf("P10.1: %v, %v", tree.Runs(), table.Table())
	}
	tree.Clear(1, 1)
	MustTree(r).Set(3, 1, 9)
	table.Clear(2, 1)
	if !slices.Equal(r.Runs(), runList(2, 1, 6, 3, 1, 9)) || !slices.Equal(f.Runs(), runList(1, 1, 5)) {
		t.Errorf("P10.1: %v, %v", r.Runs(), f.Runs())
	}
	for _, k := range kinds {
		m := k.make(t, 3, 3)
		Apply(m, opList(0, 2, 1))
		if Kind(m) != k.kind {
			t.Errorf("P10.1: behind an Apply Kind of %s: %s", k.name, Kind(m))
		}
	}
}

// sameCase are two lists of calls, each to a map of its own, and whether these are the same then.
type sameCase struct {
	name                     string
	capacity, most           int
	first                    []api.Op
	otherCapacity, otherMost int
	second                   []api.Op
	want                     bool
}

func TestSame(t *testing.T) {
	for _, k := range []sameCase{
		{"both map nothing", 4, 4, nil, 4, 4, nil, true},
		{"both map nothing, another capacity", 4, 4, nil, 5, 4, nil, false},
		{"both map nothing, another most", 4, 4, nil, 4, 3, nil, true},
		{"one maps nothing", 4, 4, opList(0, 1, 0), 4, 4, nil, false},
		{"the same runs", 4, 4, opList(0, 2, 5), 4, 4, opList(0, 2, 5), true},
		{"the same runs, another most", 4, 4, opList(0, 2, 5), 4, 1, opList(0, 2, 5), true},
		{"the same runs, another capacity", 4, 4, opList(0, 2, 5), 5, 4, opList(0, 2, 5), false},
		{"the same runs, the least and the greatest capacity", 1, 1, opList(0, 1, 5), 512, 1, opList(0, 1, 5), false},
		{"the same runs by other calls", 4, 4, opList(0, 2, 5), 4, 4, opList(1, 1, 6, 0, 1, 5, 3, 1, 8, 3, 1, -1), true},
		{"another page", 4, 4, opList(0, 2, 5), 4, 4, opList(0, 2, 6), false},
		{"another length", 4, 4, opList(0, 2, 5), 4, 4, opList(0, 3, 5), false},
		{"another sector", 4, 4, opList(0, 2, 5), 4, 4, opList(1, 2, 5), false},
		{"one run more", 4, 4, opList(0, 2, 5), 4, 4, opList(0, 2, 5, 3, 1, 9), false},
		{"the second run is another one", 4, 4, opList(0, 1, 5, 2, 1, 9), 4, 4, opList(0, 1, 5, 2, 1, 8), false},
		{"the first run is another one", 4, 4, opList(0, 1, 4, 2, 1, 9), 4, 4, opList(0, 1, 5, 2, 1, 9), false},
		{"the same sectors, other runs", 4, 4, opList(0, 4, 5), 4, 4, opList(0, 2, 5, 2, 2, 8), false},
		{"the page 0 and none", 4, 4, opList(2, 1, 0), 4, 4, opList(3, 1, 0), false},
		{"beyond 2^20", 4, 4, opList(0, 4, 1<<20, 0, 1, -1), 4, 4, opList(0, 4, 1<<20, 0, 1, -1), true},
	} {
		wantSameCase(t, k)
	}
}

// wantSameCase asks it of all pairs of kinds, both ways round.
func wantSameCase(t *testing.T, k sameCase) {
	t.Helper()
	for _, a := range trials(t, k.capacity, k.most) {
		a.first(k.first)
		for _, b := range trials(t, k.otherCapacity, k.otherMost) {
			b.first(k.second)
			if Same(a.m, b.m) != k.want || Same(b.m, a.m) != k.want {
				t.Errorf("P10.2: Same: %s: %s and %s: want %v", k.name, a.name, b.name, k.want)
			}
			if !Same(a.m, a.m) || !Same(b.m, b.m) {
				t.Errorf("P10.2: Same: %s: %s is not the same as itself", k.name, a.name)
			}
			a.wantSame("P10.2")
			b.wantSame("P10.2")
		}
	}
}

func TestExamples(t *testing.T) {
	if a, b := Kind(made(t, false, 4, 4)), Kind(made(t, true, 4, 4)); a != "runs" || b != "flat" {
		t.Errorf("P10.1: Kind: %s, %s", a, b)
	}
	for _, k := range kinds {
		m := k.make(t, 4, 1)
		if e := Apply(m, opList(0, 2, 10, 1, 1, -1)); e != api.OK || !slices.Equal(m.Runs(), runList(0, 1, 10)) {
			t.Errorf("P10.2: %s: Apply: %d, %v", k.name, e, m.Runs())
		}
		if e := Apply(m, opList(3, 1, 5, 9, 1, 1)); e != api.EFULL || !slices.Equal(m.Runs(), runList(0, 1, 10)) {
			t.Errorf("P10.2: %s: Apply: %d, %v", k.name, e, m.Runs())
		}
	}
	for i, want := range []bool{false, true, false} {
		l := [][]api.Run{runList(0, 2, 10, 2, 1, 12), runList(0, 2, 10, 2, 1, 13), runList(2, 1, 0, 0, 1, 5)}[i]
		if got := Form(l); got != want {
			t.Errorf("P10.3: Form(%v): %v", l, got)
		}
	}
	if l := Fold(pieceList(0, 4, 10, 1, 1, -1, 2, 1, 3)); !slices.Equal(l, runList(0, 2, 10, 2, 1, 3, 3, 1, 13)) {
		t.Errorf("P10.3: Fold: %v", l)
	}
}

// source parses the package's own files, without its tests.
func source(t *testing.T) []*ast.File {
	t.Helper()
	entries, err := os.ReadDir(".")
	if err != nil {
		t.Fatal(err)
	}
	var l []*ast.File
	for _, entry := range entries {
		name := entry.Name()
		if !strings.HasSuffix(name, ".go") || strings.HasSuffix(name, "_test.go") {
			continue
		}
		f, err := parser.ParseFile(token.NewFileSet(), name, nil, 0)
		if err != nil {
			t.Fatal(err)
		}
		l = append(l, f)
	}
	if len(l) == 0 {
		t.Fatal("no file of the package was looked at")
	}
	return l
}

// Chapter 10: the package calls runs and flat.
func TestCallsNoOtherLayer(t *testing.T) {
	for _, f := range source(t) {
		for _, spec := range f.Imports {
			path := strings.Trim(spec.Path.Value, `"`)
			if strings.HasPrefix(path, "ferrule/") && !slices.Contains([]string{"ferrule/api", "ferrule/runs", "ferrule/flat"}, path) {
				t.Errorf("the package imports %s", path)
			}
		}
	}
}

// Chapter 10, 'Ways': a type assertion with two values, one that panics, a type switch.
func TestWays(t *testing.T) {
	two, all, switches := 0, 0, 0
	for _, f := range source(t) {
		ast.Inspect(f, func(n ast.Node) bool {
			switch x := n.(type) {
			case *ast.AssignStmt:
				if _, ok := x.Rhs[0].(*ast.TypeAssertExpr); ok && len(x.Lhs) == 2 {
					two++
				}
			case *ast.TypeAssertExpr:
				if x.Type != nil {
					all++
				}
			case *ast.TypeSwitchStmt:
				switches++
			}
			return true
		})
	}
	if two < 1 || all-two < 1 || switches < 1 {
		t.Errorf("P10.1: %d assertions with two values, %d that panic, %d type switches", two, all-two, switches)
	}
}
