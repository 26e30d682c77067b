package vol

import (
	"fmt"
	"go/ast"
	"go/importer"
	"go/parser"
	"go/token"
	"go/types"
	"os"
	"slices"
	"strings"
	"testing"

	"ferrule/api"
	"ferrule/disk"
)

// The signatures are fixed by chapter 25.
var (
	_ func(disk.Disk) (*Store, api.Errno)                = Open
	_ func(*Store) []Entry                               = (*Store).Volumes
	_ func(*Store, string, int) api.Errno                = (*Store).Create
	_ func(*Store, string) api.Errno                     = (*Store).Delete
	_ func(*Store, string, string) api.Errno             = (*Store).Rename
	_ func(*Store, string, string) api.Errno             = (*Store).Clone
	_ func(*Store, string, int, int) (string, api.Errno) = (*Store).Read
	_ func(*Store, string, int, int, string) api.Errno   = (*Store).Write
	_ func(*Store) int                                   = (*Store).Free
	_ func(string) bool                                  = Good
	_ struct {
		Name       string
		First, Len int
	} = Entry{}
)

// The examples of chapter 25, on disks of all kinds.
func TestExamples(t *testing.T) {
	small := api.Config{Blocks: 40, Pages: 8, Capacity: 20, Spare: 2, MaxRuns: 48, Window: 8}
	for _, m := range makers {
		t.Run(m.name, func(t *testing.T) { wantExamples(t, m.make(t, small)) })
	}
}

func wantExamples(t *testing.T, d disk.Disk) {
	s := open(t, d)
	want := func(what string, got, want api.Errno, list string, free int) {
		t.Helper()
		if got != want {
			t.Errorf("P25: %s: %d, want %d", what, got, want)
		}
		wantAlso(t, s, d, list, free)
	}
	want("Create a", s.Create("a", 4), api.OK, "[{a 8 4}]", 8)
	want("Create b", s.Create("b", 6), api.OK, "[{a 8 4} {b 12 6}]", 2)
	want("Create c", s.Create("c", 3), api.EFULL, "[{a 8 4} {b 12 6}]", 2)
	want("Create a again", s.Create("a", 1), api.EORDER, "[{a 8 4} {b 12 6}]", 2)
	want("Create of no name", s.Create("", 1), api.EARG, "[{a 8 4} {b 12 6}]", 2)
	want("Create x y", s.Create("x y", 1), api.EARG, "[{a 8 4} {b 12 6}]", 2)
	want("Delete z", s.Delete("z"), api.ENONE, "[{a 8 4} {b 12 6}]", 2)
	want("Write", s.Write("a", 0, 1, "hi"), api.OK, "[{a 8 4} {b 12 6}]", 2)
	want("Delete b", s.Delete("b"), api.OK, "[{a 8 4}]", 8)
	want("Clone", s.Clone("a", "\u00e9"), api.OK, "[{a 8 4} {\u00e9 12 4}]", 4)
	if x, e := s.Read("\u00e9", 0, 1); x != padded("hi", 1) || e != api.OK {
		t.Errorf("P25.4: Read: %.80q, %d", x, e)
	}
	want("Rename to a volume's", s.Rename("a", "\u00e9"), api.EORDER, "[{a 8 4} {\u00e9 12 4}]", 4)
	want("Rename", s.Rename("a", "b"), api.OK, "[{b 8 4} {\u00e9 12 4}]", 4)
	if x, e := s.Read("a", 0, 1); x != "" || e != api.ENONE {
		t.Errorf("P25.4: Read of none: %.80q, %d", x, e)
	}
	if x, e := s.Read("b", 3, 2); x != "" || e != api.EARG {
		t.Errorf("P25.4: Read behind its end: %.80q, %d", x, e)
	}
}

// source parses the package's own files, without its tests.
func source(t *testing.T) (*token.FileSet, []*ast.File) {
	t.Helper()
	files, err := os.ReadDir(".")
	if err != nil {
		t.Fatal(err)
	}
	set := token.NewFileSet()
	var l []*ast.File
	for _, file := range files {
		name := file.Name()
		if !strings.HasSuffix(name, ".go") || strings.HasSuffix(name, "_test.go") {
			continue
		}
		f, err := parser.ParseFile(set, name, nil, 0)
		if err != nil {
			t.Fatal(err)
		}
		l = append(l, f)
	}
	if len(l) == 0 {
		t.Fatal("no file of the package was looked at")
	}
	return set, l
}

// Chapter 25: the package calls disk and crc.
func TestCallsNoOtherLayer(t *testing.T) {
	_, files := source(t)
	for _, f := range files {
		for _, spec := range f.Imports {
			path := strings.Trim(spec.Path.Value, `"`)
			if strings.HasPrefix(path, "ferrule/") && !slices.Contains([]string{"ferrule/api", "ferrule/disk", "ferrule/crc"}, path) {
				t.Errorf("the package imports %s", path)
			}
		}
	}
}

// Chapter 25, 'Ways': names are gone through by range over a string. (Names are all
// that the package's strings of runes are: what it ranges over must be a string.)
func TestWays(t *testing.T) {
	set, files := source(t)
	info := &types.Info{Types: map[ast.Expr]types.TypeAndValue{}, Defs: map[*ast.Ident]types.Object{}}
	// What other packages say is not asked: a string is one without them.
	config := types.Config{Importer: importer.Default(), Error: func(error) {}}
	config.Check("vol", set, files, info)
	over := 0
	for _, f := range files {
		ast.Inspect(f, func(n ast.Node) bool {
			r, ok := n.(*ast.RangeStmt)
			if !ok || r.Value == nil {
				return true
			}
			b, ok := info.TypeOf(r.X).(*types.Basic)
			if ok && b.Info()&types.IsString != 0 {
				over++
			}
			return true
		})
	}
	if over == 0 {
		t.Errorf("chapter 25, Ways: no range over a string, rune by rune")
	}
}

// R4: lists that are told are new memory; what is done to them is none of the Store's.
func TestListsAreNew(t *testing.T) {
	s := open(t, blank(40))
	if s.Volumes() != nil {
		t.Errorf("P25.1: Volumes of none: %v", s.Volumes())
	}
	for i := range 5 {
		must(t, s.Create(fmt.Sprint("v", i), 1+i))
		one := s.Volumes()
		want := fmt.Sprint(one)
		one = append(one, Entry{"behind", 1, 1})
		for k := range one {
			one[k] = Entry{"spoilt", 9, 9}
		}
		for whole := one[:cap(one)]; len(whole) > 0; whole = whole[1:] {
			whole[0] = Entry{"spare", 8, 8}
		}
		wantVolumes(t, s, want, 32-(i+1)*(i+2)/2)
	}
}
