package vint

import (
	"bytes"
	"encoding/binary"
	"math"
	"math/big"
	"slices"
	"testing"

	"ferrule/api"
)

// The signatures are fixed by chapter 4.
var (
	_ func([]byte, uint64) []byte           = Put
	_ func([]byte) (uint64, int, api.Errno) = Get
	_ func([]byte, int64) []byte            = PutInt
	_ func([]byte) (int64, int, api.Errno)  = GetInt
	_ func(uint64) int                      = Len
)

// alike are n bytes that are one.
func alike(n int, x byte) []byte { return bytes.Repeat([]byte{x}, n) }

// join is new memory that holds one list behind another.
func join(lists ...[]byte) []byte { return slices.Concat(lists...) }

// firsts are the least numbers of each length from two bytes on: 2^7, 2^14,
// and so on to 2^63.
func firsts() []uint64 {
	var l []uint64
	for bits := 7; bits < 64; bits += 7 {
		l = append(l, 1<<bits)
	}
	return l
}

// walk hands out numbers that hang on a seed alone.
func walk(seed uint64) func() uint64 {
	return func() uint64 {
		seed = seed*6364136223846793005 + 1442695040888963407
		return seed>>33 ^ seed<<31
	}
}

// numbers are many, sorted, each once: the edges of each length and of each
// power of two, all the small ones, ordinary ones of all lengths.
func numbers() []uint64 {
	l := []uint64{math.MaxUint64, math.MaxUint64 - 1, math.MaxInt64, math.MaxUint32, 0x0102030405060708, 0xAAAAAAAAAAAAAAAA, 0x5555555555555555}
	for v := range uint64(1<<14 + 300) {
		l = append(l, v)
	}
	for bits := range 64 {
		p := uint64(1) << bits
		l = append(l, p-1, p, p+1, p|1, ^p, -p)
	}
	next := walk(4)
	for range 100 {
		for bits := range 64 {
			l = append(l, next()>>bits)
		}
	}
	slices.Sort(l)
	return slices.Compact(l)
}

// ints are those that the numbers are, and their opposites.
func ints() []int64 {
	var l []int64
	for _, v := range numbers() {
		l = append(l, int64(v), -int64(v), int64(v>>1), -int64(v>>1)-1)
	}
	return append(l, math.MinInt64, math.MinInt64+1, math.MaxInt64, math.MaxInt64-1, -1, 0, 1)
}

// asWritten lays a number into bytes by chapter 4's words: its bits, seven by
// seven, as a number without bounds.
func asWritten(v *big.Int) []byte {
	n := max(1, (v.BitLen()+6)/7)
	b := make([]byte, n)
	for i := range 7 * n {
		b[i/7] |= byte(v.Bit(i)) << (i % 7)
	}
	for i := range n - 1 {
		b[i] |= 128
	}
	return b
}

// bytesOf are a number's bytes.
func bytesOf(v uint64) []byte { return asWritten(new(big.Int).SetUint64(v)) }

// bytesOfInt are an int's bytes, by chapter 4's words without bounds.
func bytesOfInt(v int64) []byte {
	w := big.NewInt(v)
	if v >= 0 {
		return asWritten(w.Mul(w, big.NewInt(2)))
	}
	w.Mul(w, big.NewInt(-2))
	return asWritten(w.Sub(w, big.NewInt(1)))
}

// asRead reads a number by chapter 4's words: the first byte without the
// highest bit ends it, its bits are summed without bounds, and the bytes of
// that sum are as few as can be.
func asRead(b []byte) (v *big.Int, n int, ok bool) {
	end := slices.IndexFunc(b, func(x byte) bool { return x < 128 })
	if end < 0 {
		return nil, 0, false
	}
	v = new(big.Int)
	for i := end; i >= 0; i-- {
		v.Lsh(v, 7)
		v.Or(v, big.NewInt(int64(b[i]&127)))
	}
	if v.BitLen() > 64 || len(asWritten(v)) != end+1 {
		return nil, 0, false
	}
	return v, end + 1, true
}

// The helpers end a test at its first fault: it goes through so much that all
// of its faults would be too many to tell.

// refused holds both readings of bytes that are no number against EFORM, and
// what stands beside it against nothing.
func refused(t *testing.T, what string, b []byte) {
	t.Helper()
	if v, n, e := Get(b); v != 0 || n != 0 || e != api.EFORM {
		t.Fatalf("P4.1, R2: %s: Get(%v): %d, %d, %d; want 0, 0, EFORM", what, b, v, n, e)
	}
	if v, n, e := GetInt(b); v != 0 || n != 0 || e != api.EFORM {
		t.Fatalf("P4.1, R2: %s: GetInt(%v): %d, %d, %d; want 0, 0, EFORM", what, b, v, n, e)
	}
}

// reads holds Get against a number and how many bytes it has.
func reads(t *testing.T, b []byte, v uint64, n int) {
	t.Helper()
	if w, m, e := Get(b); w != v || m != n || e != api.OK {
		t.Fatalf("P4.1: Get(%v): %d, %d, %d; want %d, %d, OK", b, w, m, e, v, n)
	}
}

// readsInt holds GetInt against an int and how many bytes it has.
func readsInt(t *testing.T, b []byte, v int64, n int) {
	t.Helper()
	if w, m, e := GetInt(b); w != v || m != n || e != api.OK {
		t.Fatalf("P4.1: GetInt(%v): %d, %d, %d; want %d, %d, OK", b, w, m, e, v, n)
	}
}

// asTold holds both readings of any bytes against chapter 4's words.
func asTold(t *testing.T, b []byte) {
	t.Helper()
	v, n, ok := asRead(b)
	if !ok {
		refused(t, "no number", b)
		return
	}
	reads(t, b, v.Uint64(), n)
	if c := Put(nil, v.Uint64()); !bytes.Equal(c, b[:n]) {
		t.Fatalf("P4.2: Put of Get(%v): %v", b, c)
	}
	i, m, e := GetInt(b)
	if e != api.OK || m != n || !bytes.Equal(bytesOfInt(i), b[:n]) {
		t.Fatalf("P4.1: GetInt(%v): %d, %d, %d", b, i, m, e)
	}
	if c := PutInt(nil, i); !bytes.Equal(c, b[:n]) {
		t.Fatalf("P4.2: PutInt of GetInt(%v): %v", b, c)
	}
}

func TestExamples(t *testing.T) {
	for _, c := range []struct {
		v uint64
		b []byte
	}{{0, []byte{0}}, {127, []byte{127}}, {128, []byte{128, 1}}, {300, []byte{172, 2}}} {
		if b := Put(nil, c.v); !bytes.Equal(b, c.b) {
			t.Errorf("P4.1: Put(none, %d): %v, want %v", c.v, b, c.b)
		}
	}
	for _, c := range []struct {
		v int64
		b []byte
	}{{-1, []byte{1}}, {1, []byte{2}}, {-64, []byte{127}}, {64, []byte{128, 1}}} {
		if b := PutInt(nil, c.v); !bytes.Equal(b, c.b) {
			t.Errorf("P4.1: PutInt(none, %d): %v, want %v", c.v, b, c.b)
		}
	}
	refused(t, "an example", []byte{128})
	refused(t, "an example", []byte{128, 0})
	refused(t, "an example", nil)
	reads(t, []byte{5, 9}, 5, 1)
	if n := Len(math.MaxUint64); n != 10 {
		t.Errorf("P4.1: Len(2^64 - 1): %d, want 10", n)
	}
	reads(t, append(alike(9, 255), 1), math.MaxUint64, 10)
	refused(t, "an example", append(alike(9, 255), 2))
}

func TestKnownNumbers(t *testing.T) {
	for _, c := range []struct {
		v uint64
		b []byte
	}{
		{1, []byte{1}},
		{129, []byte{129, 1}},
		{255, []byte{255, 1}},
		{256, []byte{128, 2}},
		{1<<14 - 1, []byte{255, 127}},
		{1 << 14, []byte{128, 128, 1}},
		{1<<21 - 1, []byte{255, 255, 127}},
		{1 << 21, []byte{128, 128, 128, 1}},
		{1<<28 - 1, []byte{255, 255, 255, 127}},
		{1 << 28, []byte{128, 128, 128, 128, 1}},
		{math.MaxUint32, []byte{255, 255, 255, 255, 15}},
		{1<<35 - 1, append(alike(4, 255), 127)},
		{1 << 35, append(alike(5, 128), 1)},
		{1<<42 - 1, append(alike(5, 255), 127)},
		{1 << 42, append(alike(6, 128), 1)},
		{1<<49 - 1, append(alike(6, 255), 127)},
		{1 << 49, append(alike(7, 128), 1)},
		{1<<56 - 1, append(alike(7, 255), 127)},
		{1 << 56, append(alike(8, 128), 1)},
		{1<<63 - 1, append(alike(8, 255), 127)},
		{1 << 63, append(alike(9, 128), 1)},
		{math.MaxUint64, append(alike(9, 255), 1)},
	} {
		if b := Put(nil, c.v); !bytes.Equal(b, c.b) {
			t.Errorf("P4.1: Put(none, %d): %v, want %v", c.v, b, c.b)
		}
		if n := Len(c.v); n != len(c.b) {
			t.Errorf("P4.1: Len(%d): %d, want %d", c.v, n, len(c.b))
		}
		reads(t, c.b, c.v, len(c.b))
	}
}

func TestKnownInts(t *testing.T) {
	for _, c := range []struct {
		v int64
		b []byte
	}{
		{0, []byte{0}},
		{-2, []byte{3}},
		{2, []byte{4}},
		{63, []byte{126}},
		{-65, []byte{129, 1}},
		{8191, []byte{254, 127}},
		{-8192, []byte{255, 127}},
		{8192, []byte{128, 128, 1}},
		{math.MaxInt32, []byte{254, 255, 255, 255, 15}},
		{math.MinInt32, []byte{255, 255, 255, 255, 15}},
		{1<<62 - 1, append([]byte{254}, append(alike(7, 255), 127)...)},
		{-1 << 62, append(alike(8, 255), 127)},
		{1 << 62, append(alike(9, 128), 1)},
		{-1<<62 - 1, append([]byte{129}, append(alike(8, 128), 1)...)},
		{math.MaxInt64, append([]byte{254}, append(alike(8, 255), 1)...)},
		{math.MinInt64, append(alike(9, 255), 1)},
		{math.MinInt64 + 1, append([]byte{253}, append(alike(8, 255), 1)...)},
	} {
		if b := PutInt(nil, c.v); !bytes.Equal(b, c.b) {
			t.Errorf("P4.1: PutInt(none, %d): %v, want %v", c.v, b, c.b)
		}
		readsInt(t, c.b, c.v, len(c.b))
	}
}

func TestNumbersAsWritten(t *testing.T) {
	for _, v := range numbers() {
		want := bytesOf(v)
		if !bytes.Equal(want, binary.AppendUvarint(nil, v)) {
			t.Fatalf("the test's own bytes of %d are wrong: %v", v, want)
		}
		if b := Put(nil, v); !bytes.Equal(b, want) {
			t.Fatalf("P4.1: Put(none, %d): %v, want %v", v, b, want)
		}
		reads(t, want, v, len(want))
	}
}

func TestIntsAsWritten(t *testing.T) {
	for _, v := range ints() {
		want := bytesOfInt(v)
		if !bytes.Equal(want, binary.AppendVarint(nil, v)) {
			t.Fatalf("the test's own bytes of %d are wrong: %v", v, want)
		}
		if b := PutInt(nil, v); !bytes.Equal(b, want) {
			t.Fatalf("P4.1: PutInt(none, %d): %v, want %v", v, b, want)
		}
		readsInt(t, want, v, len(want))
	}
}

// behinds are what may stand behind a number: what would end it, what would
// go on with it, and more than any number has.
var behinds = [][]byte{nil, {0}, {1}, {127}, {128}, {255}, {128, 0}, {255, 1}, {0, 0, 0}, {128, 128, 128, 128, 128, 128, 128, 128, 128, 128, 128, 128}}

func TestGetOfPutWhateverStandsBehind(t *testing.T) {
	for _, v := range numbers() {
		b := Put(nil, v)
		for _, behind := range behinds {
			if w, n, e := Get(join(b, behind)); w != v || n != len(b) || e != api.OK {
				t.Fatalf("P4.2: Get of Put(%d) and %v: %d, %d, %d", v, behind, w, n, e)
			}
		}
	}
}

func TestGetIntOfPutIntWhateverStandsBehind(t *testing.T) {
	for _, v := range ints() {
		b := PutInt(nil, v)
		for _, behind := range behinds {
			if w, n, e := GetInt(join(b, behind)); w != v || n != len(b) || e != api.OK {
				t.Fatalf("P4.2: GetInt of PutInt(%d) and %v: %d, %d, %d", v, behind, w, n, e)
			}
		}
	}
}

func TestBytesAhead(t *testing.T) {
	aheads := append(slices.Clone(behinds), bytesOf(300), alike(5000, 200), []byte{5, 128})
	for _, ahead := range aheads {
		for _, v := range append(firsts(), 0, 5, 127, 300, math.MaxUint64) {
			if b := Put(ahead, v); !bytes.Equal(b, join(ahead, bytesOf(v))) {
				t.Fatalf("P4.1: Put(%v, %d): %v", ahead, v, b)
			}
			i := int64(v)
			if b := PutInt(ahead, i); !bytes.Equal(b, join(ahead, bytesOfInt(i))) {
				t.Fatalf("P4.1: PutInt(%v, %d): %v", ahead, i, b)
			}
		}
	}
}

func TestNumbersOneBehindAnother(t *testing.T) {
	var b []byte
	l := numbers()
	for i, v := range l[len(l)-2000:] {
		b = Put(b, v)
		b = PutInt(b, int64(v)-int64(i))
	}
	for i, v := range l[len(l)-2000:] {
		w, n, e := Get(b)
		if w != v || e != api.OK {
			t.Fatalf("P4.2: the number %d: %d, %d; want %d", i, w, e, v)
		}
		x, m, e := GetInt(b[n:])
		if x != int64(v)-int64(i) || e != api.OK {
			t.Fatalf("P4.2: the int %d: %d, %d; want %d", i, x, e, int64(v)-int64(i))
		}
		b = b[n+m:]
	}
	if len(b) != 0 {
		t.Fatalf("P4.2: %d bytes are left", len(b))
	}
}

func TestBytesThatEndWithinANumber(t *testing.T) {
	refused(t, "nil", nil)
	refused(t, "no bytes", []byte{})
	for _, v := range append(numbers(), firsts()...) {
		b := bytesOf(v)
		for n := range b {
			// What stands in the spare room is no part of the list.
			refused(t, "an early end", b[:n])
			refused(t, "an early end", b[:n:n])
		}
	}
	for n := range 40 {
		refused(t, "no end", alike(n, 128))
		refused(t, "no end", alike(n, 255))
	}
	refused(t, "no end", alike(1<<20, 128))
	refused(t, "no end", alike(1<<20, 255))
}

func TestBytesThatAreNotAsFewAsCanBe(t *testing.T) {
	for _, v := range append(firsts(), 0, 1, 5, 127, 129, 300, 1<<14-1, 1<<56-1, 1<<63-1, math.MaxUint64) {
		b := bytesOf(v)
		b[len(b)-1] |= 128
		for len(b) < 14 {
			for _, behind := range behinds {
				refused(t, "a nought ahead", join(b, []byte{0}, behind))
			}
			b = append(b, 128)
		}
	}
}

func TestMoreThanSixtyFourBits(t *testing.T) {
	for _, low := range []byte{128, 129, 255} {
		nine := alike(9, low)
		sum := uint64(0)
		for i := range 9 {
			sum |= uint64(low&127) << (7 * i)
		}
		for x := range 256 {
			ten := append(bytes.Clone(nine), byte(x))
			if x == 1 {
				reads(t, ten, sum|1<<63, 10)
				continue
			}
			refused(t, "the tenth byte", ten)
			for y := range 256 {
				refused(t, "the tenth byte, and one behind", append(bytes.Clone(ten), byte(y)))
			}
		}
		for x := 128; x < 256; x++ {
			for n := range 10 {
				b := join(nine, alike(n+1, byte(x)), []byte{1})
				refused(t, "an eleventh byte", b)
			}
		}
	}
}

func TestAllShortBytes(t *testing.T) {
	asTold(t, nil)
	for x := range 256 {
		asTold(t, []byte{byte(x)})
		for y := range 256 {
			asTold(t, []byte{byte(x), byte(y)})
		}
	}
	edges := []byte{0, 1, 2, 63, 64, 127, 128, 129, 192, 254, 255}
	for i := range len(edges) * len(edges) * len(edges) * len(edges) {
		b := make([]byte, 4)
		for j := range b {
			b[j] = edges[i%len(edges)]
			i /= len(edges)
		}
		asTold(t, b)
	}
}

// Long lists whose bytes mostly go on: numbers of all lengths, noughts ahead,
// tenth bytes of all kinds and eleventh ones are among them.
func TestManyBytes(t *testing.T) {
	next := walk(11)
	lengths := map[int]int{}
	for range 50000 {
		b := make([]byte, next()%14)
		for i := range b {
			b[i] = byte(next())
			if next()%8 != 0 {
				b[i] |= 128
			}
		}
		if len(b) > 9 && next()%2 == 0 {
			b[9] = byte(next() % 3)
		}
		asTold(t, b)
		_, n, _ := Get(b)
		lengths[n]++
	}
	for n := range 11 {
		if lengths[n] == 0 {
			t.Fatalf("the walk has no list whose number has %d bytes", n)
		}
	}
}

func TestLengths(t *testing.T) {
	last := 1
	for _, v := range numbers() {
		n := Len(v)
		if b := Put(nil, v); n != len(b) || n != len(bytesOf(v)) {
			t.Errorf("P4.1: Len(%d): %d; it has the bytes %v", v, n, bytesOf(v))
		}
		if n < last {
			t.Errorf("P4.2: Len(%d): %d, and a lesser number has %d", v, n, last)
		}
		last = n
	}
	for i, v := range firsts() {
		if Len(v-1) != i+1 || Len(v) != i+2 {
			t.Errorf("P4.1: Len(%d), Len(%d): %d, %d; want %d, %d", v-1, v, Len(v-1), Len(v), i+1, i+2)
		}
	}
}

// puts are both writings, each as one of a number.
var puts = []struct {
	name string
	put  func(b []byte, v uint64) []byte
	want func(v uint64) []byte
}{
	{"Put", Put, bytesOf},
	{"PutInt", func(b []byte, v uint64) []byte { return PutInt(b, int64(v)) }, func(v uint64) []byte { return bytesOfInt(int64(v)) }},
}

// fill writes over a list and its spare room.
func fill(b []byte, x byte) {
	b = b[:cap(b)]
	for i := range b {
		b[i] = x
	}
}

func TestListsHandedInStayAsTheyAre(t *testing.T) {
	for _, v := range append(firsts(), 0, 1, 127, 300, math.MaxUint64) {
		for _, inner := range [][]byte{nil, {9}, bytesOf(v), {128, 0}, alike(30, 255)} {
			for spare := range 13 {
				room := join(alike(5, 7), inner, alike(spare, 7))
				before := bytes.Clone(room)
				in := room[5 : 5+len(inner)]
				for _, p := range puts {
					p.put(in, v)
				}
				Get(in)
				GetInt(in)
				if !bytes.Equal(room, before) {
					t.Fatalf("R4: %v with room for %d: the list handed in, or what stands beside it, was changed: %v", inner, spare, room)
				}
			}
		}
	}
}

func TestListsHandedInAreNotKept(t *testing.T) {
	for _, p := range puts {
		for _, v := range []uint64{0, 127, 300, math.MaxUint64} {
			for _, room := range []int{0, 1, 2, 9, 10, 11, 64} {
				in := append(make([]byte, 0, 3+room), 1, 2, 3)
				out := p.put(in, v)
				fill(in, 99)
				if want := join([]byte{1, 2, 3}, p.want(v)); !bytes.Equal(out, want) {
					t.Fatalf("R4: %s(1 2 3, %d) changes with the list handed in: %v, want %v", p.name, v, out, want)
				}
			}
		}
	}
}

func TestListsAnsweredAreNewMemory(t *testing.T) {
	for _, p := range puts {
		for _, v := range []uint64{0, 127, 300, math.MaxUint64} {
			for _, room := range []int{0, 1, 2, 9, 10, 11, 64} {
				in := append(make([]byte, 0, 3+room), 1, 2, 3)
				fill(in[3:], 50)
				before := bytes.Clone(in[:cap(in)])
				first, second := p.put(in, v), p.put(in, v)
				fill(first, 77)
				if !bytes.Equal(in[:cap(in)], before) {
					t.Fatalf("R4: %s's answer shares memory with the list handed in, which has room for %d", p.name, room)
				}
				if want := join([]byte{1, 2, 3}, p.want(v)); !bytes.Equal(second, want) || !bytes.Equal(p.put(in, v), want) {
					t.Fatalf("R4: two answers of %s(1 2 3, %d) share memory", p.name, v)
				}
			}
		}
	}
}

// Two numbers behind one list: neither may stand where the other does.
func TestTwoNumbersBehindOneList(t *testing.T) {
	for _, p := range puts {
		in := append(make([]byte, 0, 64), 5)
		first := p.put(in, 1)
		second := p.put(in, 2)
		third, fourth := p.put(first, 300), p.put(first, math.MaxInt64)
		for _, c := range []struct{ got, want []byte }{
			{first, join([]byte{5}, p.want(1))},
			{second, join([]byte{5}, p.want(2))},
			{third, join([]byte{5}, p.want(1), p.want(300))},
			{fourth, join([]byte{5}, p.want(1), p.want(math.MaxInt64))},
		} {
			if !bytes.Equal(c.got, c.want) {
				t.Errorf("R4: %s: %v, want %v", p.name, c.got, c.want)
			}
		}
	}
}

func TestNilAndAnEmptyListAreOne(t *testing.T) {
	for _, p := range puts {
		for _, v := range []uint64{0, 300, math.MaxUint64} {
			for _, none := range [][]byte{nil, {}, make([]byte, 0, 20), alike(3, 1)[:0]} {
				if b := p.put(none, v); !bytes.Equal(b, p.want(v)) {
					t.Fatalf("R4: %s(none, %d): %v, want %v", p.name, v, b, p.want(v))
				}
			}
		}
	}
}

func TestAnswersHangOnArgumentsAlone(t *testing.T) {
	next := walk(5)
	for range 200 {
		v := next() >> (next() % 64)
		Put(alike(3, 255), v)
		PutInt(nil, -int64(v))
		Get(alike(10, byte(v)))
		GetInt(nil)
		Len(v)
		if b := Put([]byte{9}, 300); !bytes.Equal(b, []byte{9, 172, 2}) {
			t.Fatalf("R5: Put hangs on earlier calls: %v", b)
		}
		if b := PutInt([]byte{9}, -64); !bytes.Equal(b, []byte{9, 127}) {
			t.Fatalf("R5: PutInt hangs on earlier calls: %v", b)
		}
		reads(t, []byte{172, 2, 128}, 300, 2)
		readsInt(t, []byte{172, 2, 128}, 150, 2)
		refused(t, "behind earlier calls", []byte{172, 130})
		if n := Len(300); n != 2 {
			t.Fatalf("R5: Len hangs on earlier calls: %d", n)
		}
	}
}
