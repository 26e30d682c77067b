package span

import (
	"slices"
	"testing"

	"ferrule/api"
)

// allLists does something with each list of that length, each item one of those told.
func allLists[T any](length int, items []T, do func([]T)) {
	at := make([]int, length)
	l := make([]T, length)
	for k := 0; k < length || length == 0; {
		for i, x := range at {
			l[i] = items[x]
		}
		do(l)
		if length == 0 {
			return
		}
		for k = 0; k < length; k++ {
			if at[k]++; at[k] < len(items) {
				break
			}
			at[k] = 0
		}
	}
}

// smallRuns are all runs with numbers below the bounds told; Len is from least on.
func smallRuns(lbas, least, lens, pages int) []api.Run {
	var l []api.Run
	for lba := range lbas {
		for n := least; n <= lens; n++ {
			for phys := range pages {
				l = append(l, api.Run{Lba: lba, Len: n, Phys: phys})
			}
		}
	}
	return l
}

// Each list of few small runs: Form holds just of what Fold leaves as it is;
// and no two that are in their form have the same map.
func TestFormOfAllSmallLists(t *testing.T) {
	items := smallRuns(4, 0, 2, 3)
	lists, formed := 0, 0
	seen := map[[6]int][]api.Run{}
	for length := range 4 {
		allLists(length, items, func(l []api.Run) {
			lists++
			want := plainForm(l)
			if Form(l) != want {
				t.Fatalf("P10.3: Form(%v): %v", l, !want)
			}
			if got := slices.Equal(Fold(piecesOf(l)), l); got != want {
				t.Fatalf("P10.4: Form(%v): %v, Fold tells %v", l, want, Fold(piecesOf(l)))
			}
			if !want {
				return
			}
			formed++
			m := mapOf(l)
			if other, ok := seen[m]; ok {
				t.Fatalf("P10.4: %v and %v are in their form, and have the same map", l, other)
			}
			seen[m] = slices.Clone(l)
		})
	}
	if lists != 1+36+36*36+36*36*36 || formed < 300 {
		t.Fatalf("%d lists, %d in their form", lists, formed)
	}
}

// mapOf tells for each of few sectors its page and one more, 0 where there is none.
func mapOf(l []api.Run) [6]int {
	var m [6]int
	for _, r := range l {
		for i := range r.Len {
			m[r.Lba+i] = r.Phys + i + 1
		}
	}
	return m
}

// Each list of few small pieces, those that are passed over among them.
func TestFoldOfAllSmallLists(t *testing.T) {
	items := pieceList(0, 1, -1, 1, 0, 5, -1, 2, 5, 2, 1, 1<<20+1)
	items = append(items, piecesOf(smallRuns(3, 1, 2, 3))...)
	for length := range 4 {
		allLists(length, items, func(l []api.Piece) {
			got := Fold(l)
			if want := foldOfFew(l); !slices.Equal(got, want) {
				t.Fatalf("P10.3: Fold(%v): %v, want %v", l, got, want)
			}
			if !Form(got) || !plainForm(got) {
				t.Fatalf("P10.4: Fold(%v) is not in its form: %v", l, got)
			}
		})
	}
}

// foldOfFew is the words of Fold for pieces of sectors from 0 to 5 alone.
func foldOfFew(l []api.Piece) []api.Run {
	p := plainOf(6, 6)
	for _, q := range l {
		p.Set(q.Lba, q.Len, q.Phys) // refuses just what is passed over: these few reach no further
	}
	return p.Runs()
}

// wantOneForm asks what holds of each map's runs.
func wantOneForm(t *testing.T, m Map) {
	t.Helper()
	l := m.Runs()
	if !Form(l) {
		t.Fatalf("P10.4: Form of Runs: %v", l)
	}
	var near []api.Run // a piece that begins above 2^20 is passed over
	for _, r := range l {
		if r.Phys <= 1<<20 {
			near = append(near, r)
		}
	}
	if got := Fold(piecesOf(l)); !slices.Equal(got, near) {
		t.Fatalf("P10.4: Fold of Runs %v: %v", l, got)
	}
	pieces, _ := m.Range(0, m.Capacity())
	if got := Fold(pieces); !slices.Equal(got, near) {
		t.Fatalf("P10.4: Fold of all as one range %v: %v", pieces, got)
	}
	slices.Reverse(pieces)
	if got := Fold(pieces); !slices.Equal(got, near) {
		t.Fatalf("P10.4: Fold of it, the last piece first %v: %v", pieces, got)
	}
}

// Each small map, each pair of changes, wrong ones among them: with no run more
// allowed than there are, and with one.
func TestApplyToAllSmallMaps(t *testing.T) {
	ops := opList(3, 1, 0, 0, 0, -1, 1, 1, -2)
	for lba := range 3 {
		for n := 1; lba+n <= 3; n++ {
			for _, phys := range []int{-1, lba, lba + 1} {
				ops = append(ops, api.Op{Lba: lba, Len: n, Phys: phys})
			}
		}
	}
	allLists(3, []int{-1, 0, 1, 2}, func(entries []int) {
		var first []api.Op
		for lba, phys := range entries {
			if phys >= 0 {
				first = append(first, api.Op{Lba: lba, Len: 1, Phys: phys})
			}
		}
		whole := plainOf(3, 3)
		whole.apply(first)
		for more := range 2 {
			most := max(1, whole.Count()+more)
			allLists(2, ops, func(pair []api.Op) {
				for _, c := range trials(t, 3, most) {
					c.first(opsOf(whole.Runs()))
					c.apply(pair)
				}
			})
		}
	})
}

// opsOf tells runs as changes.
func opsOf(l []api.Run) []api.Op {
	var o []api.Op
	for _, r := range l {
		o = append(o, api.Op(r))
	}
	return o
}

// op tells a change, mostly one that is right.
func (d *dice) op(capacity, longest int) api.Op {
	o := api.Op{Lba: d.roll(capacity)}
	o.Len = 1 + d.roll(min(longest, capacity-o.Lba))
	switch k := d.roll(40); {
	case k < 12:
		o.Phys = -1
	case k < 24:
		o.Phys = o.Lba + 1000*d.roll(3)
	case k < 32:
		o.Phys = d.roll(30)
	case k < 36:
		o.Phys = 1<<20 - d.roll(5)
	case k < 38:
		o.Phys = 1<<20 - capacity + o.Lba
	case k == 38:
		l := wrongOps()
		o = l[d.roll(len(l))]
	default:
		o.Phys = []int{-2, 1<<20 + 1, 0, 1 << 20}[d.roll(4)]
	}
	return o
}

// Long rows of Apply to each kind, with all that it tells behind each.
func TestLongRows(t *testing.T) {
	answered := map[api.Errno]int{}
	far := 0
	for _, k := range []struct{ capacity, most, longest, calls, changes int }{
		{1, 1, 1, 200, 3}, {3, 2, 3, 500, 4}, {8, 1, 8, 500, 3}, {8, 3, 5, 1000, 4}, {10, 10, 4, 600, 6}, {40, 6, 12, 500, 5},
		{40, 20, 6, 500, 9}, {40, 512, 40, 200, 5}, {512, 60, 20, 60, 20}, {512, 512, 9, 60, 30}, {512, 1, 512, 40, 3},
	} {
		d := dice(k.capacity*7 + k.most)
		all := trials(t, k.capacity, k.most)
		for range k.calls {
			var ops []api.Op
			for range d.roll(k.changes + 1) {
				ops = append(ops, d.op(k.capacity, k.longest))
			}
			for _, c := range all {
				answered[c.apply(ops)]++
			}
			for _, c := range all[1:] {
				if !Same(all[0].m, c.m) {
					t.Fatalf("P10.2: Same: %v, %v", all[0].m.Runs(), c.m.Runs())
				}
			}
			for _, r := range all[0].m.Runs() {
				far += max(0, min(1, r.Phys-1<<20))
			}
			wantOneForm(t, all[0].m)
			wantOneForm(t, all[1].m)
		}
	}
	for _, e := range []api.Errno{api.OK, api.EARG, api.EFULL} {
		if answered[e] < 1000 {
			t.Errorf("%d calls answered %d", answered[e], e)
		}
	}
	if far < 500 {
		t.Errorf("only %d runs begin above 2^20", far)
	}
}

// Fold of any pieces.
func TestFoldLongRows(t *testing.T) {
	for seed := range 300 {
		d := dice(seed)
		var l []api.Piece
		for range d.roll(60) {
			p := api.Piece(d.op(api.MaxCapacity+3, 1+d.roll(200)))
			if d.roll(20) == 0 {
				l = append(l, wrongPieces()[d.roll(len(wrongPieces()))])
			}
			if d.roll(10) == 0 {
				p.Len += 1 << 40
			}
			l = append(l, p)
		}
		wantFold(t, "any pieces", l, plainFold(l))
	}
}

// Same tells of small maps just whether each sector is the same.
func TestSameOfAllSmallMaps(t *testing.T) {
	items := []int{-1, 0, 1, 5}
	type filled struct {
		entries []int
		l       []*trial
	}
	var all []filled
	allLists(3, items, func(entries []int) {
		f := filled{slices.Clone(entries), trials(t, 3, 3)}
		for lba, phys := range entries {
			for _, c := range f.l {
				c.first(opList(lba, 1, phys))
			}
		}
		all = append(all, f)
	})
	for i, a := range all {
		for k, b := range all {
			for _, x := range a.l {
				for _, y := range b.l {
					if Same(x.m, y.m) != (i == k) {
						t.Fatalf("P10.2: Same of %v and %v: %v", a.entries, b.entries, i != k)
					}
				}
			}
		}
	}
}

// The same calls have the same answers (R5).
func TestSameCallsSameAnswers(t *testing.T) {
	row := func() (answered []api.Errno, told []api.Run, nodes []inside) {
		d := dice(11)
		for _, c := range trials(t, 30, 9) {
			for range 200 {
				e := c.apply([]api.Op{d.op(30, 7), d.op(30, 7)})
				answered = append(answered, e)
				told = append(told, c.m.Runs()...)
				nodes = append(nodes, insideOf(c.m))
			}
		}
		return answered, told, nodes
	}
	answered, told, nodes := row()
	again, toldAgain, nodesAgain := row()
	if !slices.Equal(answered, again) || !slices.Equal(told, toldAgain) || !slices.EqualFunc(nodes, nodesAgain, inside.equal) {
		t.Errorf("R5: the same calls answered otherwise")
	}
}
