package crc

import (
	"bytes"
	"hash/crc32"
	"testing"
)

// The signatures are fixed by chapter 1.
var (
	_ func([]byte) uint32         = Sum
	_ func(uint32, []byte) uint32 = More
)

// someSums are sums that More may be handed, the edges of 32 bits among them.
var someSums = []uint32{0, 1, 2, 255, 256, 0x7FFFFFFF, 0x80000000, 0xEDB88320, 0xFFFFFFFE, 0xFFFFFFFF, 3421780262}

// sumAsWritten follows chapter 1's words one by one, in wider numbers than
// the package uses.
func sumAsWritten(b []byte) uint32 {
	c := uint64(4294967295)
	for _, x := range b {
		c ^= uint64(x)
		for i := 0; i < 8; i++ {
			if c%2 == 1 {
				c = c/2 ^ 0xEDB88320
			} else {
				c = c / 2
			}
		}
	}
	return uint32(c ^ 4294967295)
}

// mixedBytes are n bytes that hang on seed alone.
func mixedBytes(n int, seed uint32) []byte {
	b := make([]byte, n)
	for i := range b {
		seed = seed*1664525 + 1013904223
		b[i] = byte(seed >> 24)
	}
	return b
}

// inputs are ordinary lists and the edges: none, one byte, all alike.
func inputs() [][]byte {
	l := [][]byte{nil, {}, []byte("123456789"), []byte("a text")}
	for v := range 256 {
		l = append(l, []byte{byte(v)})
	}
	for _, n := range []int{1, 2, 3, 4, 5, 7, 8, 31, 32, 33, 60, 68, 255, 256, 257, 1000} {
		l = append(l, bytes.Repeat([]byte{0}, n), bytes.Repeat([]byte{255}, n), mixedBytes(n, uint32(n)))
	}
	return l
}

func TestExamples(t *testing.T) {
	if s := Sum(nil); s != 0 {
		t.Errorf("P1.1: Sum(none) = %d, want 0", s)
	}
	if s := Sum([]byte("123456789")); s != 3421780262 {
		t.Errorf("P1.1: Sum(123456789) = %d, want 3421780262", s)
	}
	if s := More(Sum([]byte("1234")), []byte("56789")); s != 3421780262 {
		t.Errorf("P1.1: More(Sum(1234), 56789) = %d, want 3421780262", s)
	}
}

func TestSumKnown(t *testing.T) {
	for _, c := range []struct {
		text string
		want uint32
	}{
		{"\x00", 0xD202EF8D},
		{"\xff", 0xFF000000},
		{"\x00\x00\x00\x00", 0x2144DF1C},
		{"\xff\xff\xff\xff", 0xFFFFFFFF},
		{"a", 0xE8B7BE43},
		{"abc", 0x352441C2},
		{"The quick brown fox jumps over the lazy dog", 0x414FA339},
	} {
		if s := Sum([]byte(c.text)); s != c.want {
			t.Errorf("P1.1: Sum(%q) = %08X, want %08X", c.text, s, c.want)
		}
	}
}

func TestSumAsWritten(t *testing.T) {
	for _, b := range inputs() {
		s := Sum(b)
		if want := sumAsWritten(b); s != want {
			t.Errorf("P1.1: Sum(%v) = %d, want %d", b, s, want)
		}
		if want := crc32.ChecksumIEEE(b); s != want {
			t.Errorf("P1.1: Sum(%v) = %d, the library's is %d", b, s, want)
		}
	}
}

func TestSumLong(t *testing.T) {
	b := mixedBytes(1<<20, 7)
	if s, want := Sum(b), crc32.ChecksumIEEE(b); s != want {
		t.Errorf("P1.1: Sum of a long list = %d, want %d", s, want)
	}
}

func TestMoreAnySum(t *testing.T) {
	for _, sum := range someSums {
		for _, b := range inputs() {
			if s, want := More(sum, b), crc32.Update(sum, crc32.IEEETable, b); s != want {
				t.Errorf("P1.1: More(%d, %v) = %d, want %d", sum, b, s, want)
			}
		}
	}
}

// fourBytesWithSum are bytes whose sum is the one asked for: each sum is the
// sum of some four bytes, so More has a meaning for any.
func fourBytesWithSum(sum uint32) []byte {
	c := sum ^ 0xFFFFFFFF
	for range 32 {
		if c&0x80000000 != 0 {
			c = (c^0xEDB88320)<<1 | 1
		} else {
			c <<= 1
		}
	}
	c ^= 0xFFFFFFFF
	return []byte{byte(c), byte(c >> 8), byte(c >> 16), byte(c >> 24)}
}

func TestMoreIsOfBytesWithThatSum(t *testing.T) {
	for _, sum := range someSums {
		a := fourBytesWithSum(sum)
		if s := Sum(a); s != sum {
			t.Errorf("P1.1: Sum(%v) = %d, want %d", a, s, sum)
		}
		for _, b := range inputs() {
			if s, want := More(sum, b), Sum(append(bytes.Clone(a), b...)); s != want {
				t.Errorf("P1.1: More(%d, %v) = %d, want %d", sum, b, s, want)
			}
		}
	}
}

func TestMoreOfNothing(t *testing.T) {
	for _, sum := range someSums {
		if s := More(sum, nil); s != sum {
			t.Errorf("P1.2: More(%d, nil) = %d", sum, s)
		}
		if s := More(sum, []byte{}); s != sum {
			t.Errorf("P1.2: More(%d, empty) = %d", sum, s)
		}
	}
}

func TestMoreGoesOn(t *testing.T) {
	for _, b := range inputs() {
		want := Sum(b)
		for i := range len(b) + 1 {
			if s := More(Sum(b[:i]), b[i:]); s != want {
				t.Errorf("P1.2: More at %d of %v = %d, want %d", i, b, s, want)
			}
		}
		byteByByte := uint32(0)
		for i := range b {
			byteByByte = More(byteByByte, b[i:i+1])
		}
		if byteByByte != want {
			t.Errorf("P1.2: More byte by byte of %v = %d, want %d", b, byteByByte, want)
		}
	}
}

func TestSumOfNothing(t *testing.T) {
	if s := Sum(nil); s != 0 {
		t.Errorf("P1.2: Sum(nil) = %d", s)
	}
	if s := Sum([]byte{}); s != 0 {
		t.Errorf("P1.2: Sum(empty) = %d", s)
	}
	if s := Sum(make([]byte, 0, 8)); s != 0 {
		t.Errorf("P1.2: Sum(empty with spare room) = %d", s)
	}
}

// changes are what four bytes may be changed by: each single bit, each pair
// of bits, and some of many bits, the polynomial's own among them.
func changes() []uint32 {
	l := []uint32{0xFFFFFFFF, 0x00FFFFFF, 0xFFFFFF00, 0x80000001, 0x010000FF, 0xEDB88320, 0xDB710641, 0x04C11DB7}
	for i := range 32 {
		for j := range i + 1 {
			l = append(l, 1<<i|1<<j)
		}
	}
	for seed := range uint32(200) {
		l = append(l, (seed+1)*2654435761)
	}
	return l
}

func TestChangeWithinFourBytesIsTold(t *testing.T) {
	for _, b := range [][]byte{make([]byte, 4), bytes.Repeat([]byte{255}, 12), mixedBytes(68, 1), mixedBytes(300, 2)} {
		sum := Sum(b)
		for at := range len(b) - 3 {
			for _, c := range changes() {
				changed := bytes.Clone(b)
				for i := range 4 {
					changed[at+i] ^= byte(c >> (8 * i))
				}
				if Sum(changed) == sum {
					t.Errorf("P1.2: of %d bytes the change %08X at %d is not told", len(b), c, at)
				}
			}
		}
	}
}

func TestChangeInShortListIsTold(t *testing.T) {
	seen := map[uint32]int{}
	for v := range 1 << 16 {
		s := Sum([]byte{byte(v), byte(v >> 8)})
		if w, ok := seen[s]; ok {
			t.Fatalf("P1.2: the two bytes %04X and %04X have one sum", v, w)
		}
		seen[s] = v
	}
}

func TestBytesStayAsTheyAre(t *testing.T) {
	room := mixedBytes(64, 3)
	before := bytes.Clone(room)
	Sum(room[8:40])
	More(5, room[8:40])
	if !bytes.Equal(room, before) {
		t.Error("R4: the bytes handed in, or their spare room, were changed")
	}
}

func TestAnswersHangOnArgumentsAlone(t *testing.T) {
	b := mixedBytes(40, 4)
	sum, more := Sum(b), More(9, b)
	for i := range b {
		old := b[i]
		b[i] ^= 1
		Sum(b)
		More(9, b)
		b[i] = old
		if Sum(b) != sum || More(9, b) != more {
			t.Fatal("R5: an answer hangs on earlier calls")
		}
	}
}
