package blocks

import (
	"math"
	"slices"
	"testing"

	"ferrule/api"
	"ferrule/span"
)

const top = 1 << 20 // the greatest page that a run which is cut may begin at

// ends are numbers that no call takes, wherever one stands.
var ends = []int{
	math.MinInt, math.MinInt + 1, -1 << 62, -1 << 32, -1<<32 + 1, -1 << 31, -513, -2,
	top + 1, 1<<30 + 1, 1<<31 - 1, 1 << 31, 1 << 32, 1<<32 + 1, 1 << 62, math.MaxInt - 1, math.MaxInt,
}

// runList tells runs, three numbers each.
func runList(n ...int) []api.Run {
	var l []api.Run
	for c := range slices.Chunk(n, 3) {
		l = append(l, api.Run{Lba: c[0], Len: c[1], Phys: c[2]})
	}
	return l
}

// right is what the words of Valid and Split have in common.
func right(l []api.Run) bool {
	if len(l) > 512 || !span.Form(l) {
		return false
	}
	return !slices.ContainsFunc(l, func(r api.Run) bool { return r.Lba+r.Len > 512 })
}

// takesValid is P13.1's words of what is refused.
func takesValid(l []api.Run, blocks, pages int) bool {
	if blocks < 1 || blocks > 64 || pages < 1 || pages > 32 || !right(l) {
		return false
	}
	for _, r := range l {
		for i := range r.Len {
			if r.Phys+i >= blocks*pages {
				return false
			}
		}
	}
	return true
}

// plainValid is P13.1's words, page by page, of what is not refused.
func plainValid(l []api.Run, blocks, pages int) []int {
	var valid []int
	for b := range blocks {
		n := 0
		for p := range pages {
			for _, r := range l {
				if page := b*pages + p; page >= r.Phys && page < r.Phys+r.Len {
					n++
				}
			}
		}
		valid = append(valid, n)
	}
	return valid
}

// takesSplit is P13.3's words of what is refused.
func takesSplit(l []api.Run, pages int) bool {
	return pages >= 1 && pages <= 32 && right(l) && !slices.ContainsFunc(l, func(r api.Run) bool { return r.Phys > 1048576 })
}

// plainSplit is P13.3's words, page by page, of what is not refused.
func plainSplit(l []api.Run, pages int) []api.Run {
	var parts []api.Run
	for _, r := range l {
		for i := range r.Len {
			if i == 0 || (r.Phys+i)%pages == 0 {
				parts = append(parts, api.Run{Lba: r.Lba + i, Phys: r.Phys + i})
			}
			parts[len(parts)-1].Len++
		}
	}
	return parts
}

// plainMoves is P13.3's words, part by part: all its pages are the block's.
func plainMoves(l []api.Run, block, pages int) []api.Run {
	return slices.DeleteFunc(plainSplit(l, pages), func(r api.Run) bool {
		return r.Phys < block*pages || r.Phys+r.Len > (block+1)*pages
	})
}

// plainVictim is P13.2's words: each block is held against each.
func plainVictim(valid []int, may []bool) (int, bool) {
	asked := func(b int) bool { return b < len(valid) && b < len(may) && may[b] }
	for b := range valid {
		best := asked(b)
		for c := range valid {
			if asked(c) && (valid[c] < valid[b] || valid[c] == valid[b] && c < b) {
				best = false
			}
		}
		if best {
			return b, true
		}
	}
	return 0, false
}

// spoil overwrites a list, its spare room too.
func spoil[T any](l []T, v T) {
	for i := range l[:cap(l)] {
		l[:cap(l)][i] = v
	}
}

// strange stands nowhere else: what is handed in is hemmed in by it.
var strange = api.Run{Lba: 71, Len: 72, Phys: 73}

// hemmed does something with a list that has such runs ahead of it and in its
// spare room, and sees to it that all of it is as it was, whatever is done
// with the answer.
func hemmed[T any](t *testing.T, name string, l []api.Run, other T, do func([]api.Run) []T) {
	t.Helper()
	all := slices.Concat([]api.Run{strange}, l, []api.Run{strange, strange, strange})
	was := slices.Clone(all)
	answer := do(all[1 : 1+len(l)])
	if !slices.Equal(all, was) {
		t.Errorf("R4: %s: what was handed in is changed: %v, was %v", name, all, was)
	}
	spoil(answer, other)
	if !slices.Equal(all, was) {
		t.Errorf("R4: %s: the answer shares memory with what was handed in: %v, was %v", name, all, was)
	}
}

// wantValid asks Valid, and tells whether it answered.
func wantValid(t *testing.T, name string, l []api.Run, blocks, pages int) bool {
	t.Helper()
	takes := takesValid(l, blocks, pages)
	hemmed(t, name, l, -77, func(l []api.Run) []int {
		valid, e := Valid(l, blocks, pages)
		switch {
		case takes && (e != api.OK || !slices.Equal(valid, plainValid(l, blocks, pages))):
			t.Errorf("P13.1: %s: Valid(%v, %d, %d): %v, %d; want %v", name, l, blocks, pages, valid, e, plainValid(l, blocks, pages))
		case !takes && (e != api.EARG || len(valid) > 0):
			t.Errorf("P13.1: %s: Valid(%v, %d, %d): %v, %d; want EARG", name, l, blocks, pages, valid, e)
		}
		return valid
	})
	return takes
}

// wantSplit asks Split, and tells whether it answered.
func wantSplit(t *testing.T, name string, l []api.Run, pages int) bool {
	t.Helper()
	takes := takesSplit(l, pages)
	hemmed(t, name, l, strange, func(l []api.Run) []api.Run {
		parts, e := Split(l, pages)
		switch {
		case takes && (e != api.OK || !slices.Equal(parts, plainSplit(l, pages))):
			t.Errorf("P13.3: %s: Split(%v, %d): %v, %d; want %v", name, l, pages, parts, e, plainSplit(l, pages))
		case !takes && (e != api.EARG || len(parts) > 0):
			t.Errorf("P13.3: %s: Split(%v, %d): %v, %d; want EARG", name, l, pages, parts, e)
		}
		return parts
	})
	return takes
}

// wantMoves asks Moves, and tells whether it answered.
func wantMoves(t *testing.T, name string, l []api.Run, block, pages int) bool {
	t.Helper()
	takes := block >= 0 && block <= 63 && takesSplit(l, pages)
	hemmed(t, name, l, strange, func(l []api.Run) []api.Run {
		moves, e := Moves(l, block, pages)
		switch {
		case takes && (e != api.OK || !slices.Equal(moves, plainMoves(l, block, pages))):
			t.Errorf("P13.3: %s: Moves(%v, %d, %d): %v, %d; want %v", name, l, block, pages, moves, e, plainMoves(l, block, pages))
		case !takes && (e != api.EARG || len(moves) > 0):
			t.Errorf("P13.3: %s: Moves(%v, %d, %d): %v, %d; want EARG", name, l, block, pages, moves, e)
		}
		return moves
	})
	return takes
}

// wantVictim asks Victim, with lists that others hem in: those would be the
// victim, if they were asked.
func wantVictim(t *testing.T, name string, valid []int, may []bool) bool {
	t.Helper()
	handed, allowed := append(slices.Clone(valid), math.MinInt, math.MinInt), append(slices.Clone(may), true, true)
	sameHanded, sameAllowed := slices.Clone(handed), slices.Clone(allowed)
	want, found := plainVictim(valid, may)
	if b, ok := Victim(handed[:len(valid)], allowed[:len(may)]); b != want || ok != found {
		t.Errorf("P13.2: %s: Victim(%v, %v): %d, %v; want %d, %v", name, valid, may, b, ok, want, found)
	}
	if !slices.Equal(handed, sameHanded) || !slices.Equal(allowed, sameAllowed) {
		t.Errorf("R4: %s: Victim changed what was handed in: %v, %v", name, handed, allowed)
	}
	return found
}
