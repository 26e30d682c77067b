package tag

import (
	"bytes"
	"encoding/binary"
	"hash/crc32"
	"math"
	"strconv"
	"testing"

	"ferrule/api"
)

// The signatures are fixed by chapter 3.
var (
	_ func(api.Page) ([]byte, api.Errno) = Encode
	_ func([]byte) (api.Page, api.Errno) = Decode
	_ func([]byte) bool                  = Clean
)

// kinds are the three that there are.
var kinds = []int{api.Data, api.Snap, api.Log}

// numbers are what may stand in a place of four bytes: the least, the
// greatest, each byte by itself, and the edges between the bytes.
var numbers = []uint32{
	0, 1, 2, 3, 4, 127, 128, 254, 255, 256, 257, 0xFF00, 0xFFFF, 0x10000, 0xFF0000, 0xFFFFFF, 0x1000000,
	0xFF000000, 0x01020304, 0x04030201, 0x7FFFFFFF, 0x80000000, 0xFFFFFFFE, 0xFFFFFFFF,
}

// places are a page's numbers, each by itself, and where it stands.
var places = []struct {
	name string
	at   int
	of   func(*api.Page) *uint32
}{
	{"Lba", 4, func(p *api.Page) *uint32 { return &p.Lba }},
	{"Seq", 8, func(p *api.Page) *uint32 { return &p.Seq }},
	{"Epoch", 12, func(p *api.Page) *uint32 { return &p.Epoch }},
	{"Group", 16, func(p *api.Page) *uint32 { return &p.Group }},
	{"Index", 20, func(p *api.Page) *uint32 { return &p.Index }},
	{"Total", 24, func(p *api.Page) *uint32 { return &p.Total }},
}

// alike are n bytes that are one.
func alike(n int, x byte) []byte { return bytes.Repeat([]byte{x}, n) }

// ordinary is a page of which no two places hold alike.
func ordinary(kind int) api.Page {
	p := api.Page{Kind: kind, Lba: 0x11121314, Seq: 0x21222324, Epoch: 0x31323334, Group: 0x41424344, Index: 0x51525354, Total: 0x61626364}
	for i := range p.Payload {
		p.Payload[i] = byte(200 - 5*i)
	}
	return p
}

// extreme is a page whose numbers and payload are all the least or all the greatest.
func extreme(kind int, x uint32) api.Page {
	p := api.Page{Kind: kind, Lba: x, Seq: x, Epoch: x, Group: x, Index: x, Total: x}
	for i := range p.Payload {
		p.Payload[i] = byte(x)
	}
	return p
}

// walked are pages whose parts hang on a seed alone.
func walked(n int) []api.Page {
	var l []api.Page
	seed := uint32(1)
	next := func() uint32 {
		seed = seed*1664525 + 1013904223
		return seed>>16 | seed<<16
	}
	for i := range n {
		p := api.Page{Kind: kinds[i%3], Lba: next(), Seq: next(), Epoch: next(), Group: next(), Index: next(), Total: next()}
		for j := range p.Payload {
			p.Payload[j] = byte(next())
		}
		l = append(l, p)
	}
	return l
}

// pages are ordinary ones of each kind, the edges of each place, and many others.
func pages() []api.Page {
	l := walked(300)
	for _, k := range kinds {
		l = append(l, ordinary(k), extreme(k, 0), extreme(k, math.MaxUint32))
		for _, x := range []byte{0, 255} {
			p := ordinary(k)
			copy(p.Payload[:], alike(api.SectorBytes, x))
			l = append(l, p)
		}
		for _, place := range places {
			for _, x := range numbers {
				one := api.Page{Kind: k}
				*place.of(&one) = x
				p := ordinary(k)
				*place.of(&p) = x
				l = append(l, one, p)
			}
		}
		for i := range api.SectorBytes {
			one := api.Page{Kind: k}
			one.Payload[i] = 1
			l = append(l, one)
		}
	}
	return l
}

// asWritten lays a page into bytes by chapter 3's words and the library's means.
func asWritten(p api.Page) []byte {
	b := []byte{byte(p.Kind), 0, 0, 0}
	for _, x := range []uint32{p.Lba, p.Seq, p.Epoch, p.Group, p.Index, p.Total} {
		b = binary.LittleEndian.AppendUint32(b, x)
	}
	b = append(b, p.Payload[:]...)
	b = binary.LittleEndian.AppendUint32(b, crc32.ChecksumIEEE(b))
	return append(b, 'D', 'O', 'N', 'E')
}

// summed is a copy of a page's bytes with the sum that they should have.
func summed(b []byte) []byte {
	c := bytes.Clone(b)
	binary.LittleEndian.PutUint32(c[60:], crc32.ChecksumIEEE(c[:60]))
	return c
}

// with is a copy of bytes of which one is another.
func with(b []byte, at int, x byte) []byte {
	c := bytes.Clone(b)
	c[at] = x
	return c
}

// encoded are the bytes of a page that Encode takes.
func encoded(t *testing.T, p api.Page) []byte {
	t.Helper()
	b, e := Encode(p)
	if e != api.OK || len(b) != api.PageBytes {
		t.Fatalf("P3.1: Encode(%v): %d bytes, %d", p, len(b), e)
	}
	return b
}

// refused holds an error of Decode against what it should be, and what
// stands beside it against nothing.
func refused(t *testing.T, what string, b []byte, want api.Errno) {
	t.Helper()
	p, e := Decode(b)
	if e != want {
		t.Errorf("%s: Decode: %d, want %d", what, e, want)
	}
	if p != (api.Page{}) {
		t.Errorf("R2: %s: Decode tells %v beside an error", what, p)
	}
}

func TestExamples(t *testing.T) {
	b := encoded(t, api.Page{Kind: api.Data, Lba: 5})
	if b[0] != 1 || b[4] != 5 || string(b[64:68]) != "DONE" {
		t.Errorf("P3.1: Encode of the example: %v", b)
	}
	refused(t, "P3.1: 68 bytes 255", alike(68, 255), api.ENONE)
	refused(t, "P3.1: 68 bytes 0", make([]byte, 68), api.ETORN)
	refused(t, "P3.1: 67 bytes", make([]byte, 67), api.EARG)
	if b, e := Encode(api.Page{Kind: 4}); len(b) != 0 || e != api.EARG {
		t.Errorf("P3.1: Encode of the kind 4: %v, %d", b, e)
	}
}

func TestEncodeKnown(t *testing.T) {
	p := api.Page{Kind: api.Log, Lba: 1, Seq: 0x01020304, Epoch: 1 << 31, Group: 7, Index: 65536, Total: 255}
	p.Payload[0], p.Payload[31] = 9, 8
	b := encoded(t, p)
	want := make([]byte, 60)
	want[0], want[4], want[15], want[16], want[22], want[24], want[28], want[59] = 3, 1, 128, 7, 1, 255, 9, 8
	copy(want[8:], []byte{4, 3, 2, 1})
	if !bytes.Equal(b[:60], want) {
		t.Errorf("P3.1: Encode: %v, want %v", b[:60], want)
	}
}

func TestEncodeAsWritten(t *testing.T) {
	for _, p := range pages() {
		if b := encoded(t, p); !bytes.Equal(b, asWritten(p)) {
			t.Errorf("P3.1: Encode(%v): %v, want %v", p, b, asWritten(p))
		}
	}
}

func TestEachNumberStandsInItsPlace(t *testing.T) {
	for _, place := range places {
		for _, x := range numbers {
			p := api.Page{Kind: api.Snap}
			*place.of(&p) = x
			b := encoded(t, p)
			for at := 4; at < 28; at += 4 {
				want := uint32(0)
				if at == place.at {
					want = x
				}
				if got := binary.LittleEndian.Uint32(b[at:]); got != want {
					t.Errorf("P3.1: %s %d: %d at %d, want %d", place.name, x, got, at, want)
				}
			}
		}
	}
}

func TestEncodeRefusesOtherKinds(t *testing.T) {
	// The last ones are right in their lowest byte alone.
	for _, k := range []int{0, 4, 5, -1, -2, 127, 128, 254, 255, 256, math.MaxInt, math.MinInt, 257, 258, 259, 1<<16 + 1, 1<<32 + 2, -255, -253} {
		for _, p := range []api.Page{{Kind: k}, ordinary(k), extreme(k, math.MaxUint32)} {
			if b, e := Encode(p); e != api.EARG || len(b) != 0 {
				t.Errorf("P3.1, R2: Encode of the kind %d: %v, %d; want EARG and no bytes", k, b, e)
			}
		}
	}
}

func TestDecodeOfEncodeIsThePage(t *testing.T) {
	for _, p := range pages() {
		if q, e := Decode(encoded(t, p)); q != p || e != api.OK {
			t.Errorf("P3.2: Decode of Encode(%v): %v, %d", p, q, e)
		}
	}
}

func TestEncodeOfDecodeIsTheBytes(t *testing.T) {
	for _, p := range pages() {
		b := asWritten(p)
		q, e := Decode(b)
		if q != p || e != api.OK {
			t.Errorf("P3.1: Decode(%v): %v, %d; want %v", b, q, e, p)
		}
		if c := encoded(t, q); !bytes.Equal(c, b) {
			t.Errorf("P3.2: Encode of Decode(%v): %v", b, c)
		}
	}
}

// Whatever the bytes under a right sum and a right mark are: they are
// refused, or told so that Encode gives them again.
func TestEncodeOfDecodeOfAnyBytes(t *testing.T) {
	for i, p := range walked(500) {
		b := asWritten(p)
		copy(b, p.Payload[:4])
		b[0] %= 5
		if i%2 == 0 {
			b[1], b[2], b[3] = b[1]%2, b[2]%2, b[3]%2
		}
		b = summed(b)
		right := b[0] >= 1 && b[0] <= 3 && b[1] == 0 && b[2] == 0 && b[3] == 0
		if !right {
			refused(t, "P3.1: a wrong head", b, api.EFORM)
			continue
		}
		q, e := Decode(b)
		if e != api.OK || !bytes.Equal(encoded(t, q), b) {
			t.Errorf("P3.2: Encode of Decode(%v): %v, %d", b, q, e)
		}
	}
}

func TestDecodeOfAnotherLength(t *testing.T) {
	b := asWritten(ordinary(api.Data))
	refused(t, "P3.1: nil", nil, api.EARG)
	refused(t, "P3.1: no bytes", []byte{}, api.EARG)
	refused(t, "P3.1: no bytes and spare room", b[:0], api.EARG)
	for n := range 3*api.PageBytes + 1 {
		if n == api.PageBytes {
			continue
		}
		// What would be another error at the right length is EARG too.
		refused(t, "P3.1: another length, 255", alike(n, 255), api.EARG)
		refused(t, "P3.1: another length, 0", make([]byte, n), api.EARG)
		refused(t, "P3.1: another length, of pages", bytes.Repeat(b, 4)[:n], api.EARG)
		refused(t, "P3.1: another length, the end of pages", bytes.Repeat(b, 4)[4*len(b)-n:], api.EARG)
	}
	if p, e := Decode(bytes.Repeat(b, 2)[:api.PageBytes]); p != ordinary(api.Data) || e != api.OK {
		t.Errorf("P3.1: Decode of a page with spare room: %v, %d", p, e)
	}
}

func TestDecodeOfCleanBytes(t *testing.T) {
	refused(t, "P3.1: all 255", alike(api.PageBytes, 255), api.ENONE)
	for i := range api.PageBytes {
		for _, x := range []byte{0, 1, 127, 128, 254} {
			refused(t, "P3.1: all but one 255", with(alike(api.PageBytes, 255), i, x), api.ETORN)
		}
	}
}

func TestDecodeAsksForTheMarkFirst(t *testing.T) {
	b := asWritten(ordinary(api.Snap))
	for i := 64; i < 68; i++ {
		for x := range 256 {
			c := with(b, i, byte(x))
			if bytes.Equal(c, b) {
				continue
			}
			refused(t, "P3.1: a wrong mark", c, api.ETORN)
			refused(t, "P3.1: a wrong mark and a wrong sum", with(c, 60, c[60]^1), api.ETORN)
			refused(t, "P3.1: a wrong mark, a right sum and a wrong kind", summed(with(c, 0, 4)), api.ETORN)
			refused(t, "P3.1: a wrong mark, a wrong sum and a wrong kind", with(c, 0, 4), api.ETORN)
		}
	}
	for _, m := range []string{"done", "Done", "ENOD", "DNOE", "ODNE", "DOEN", "DON\xff", "\xffONE", "\xff\xff\xff\xff", "\x00\x00\x00\x00"} {
		refused(t, "P3.1: the mark "+strconv.Quote(m), append(bytes.Clone(b[:64]), m...), api.ETORN)
	}
}

func TestDecodeAsksForTheSumNext(t *testing.T) {
	for _, p := range []api.Page{ordinary(api.Data), ordinary(api.Snap), ordinary(api.Log), extreme(api.Data, 0), extreme(api.Log, math.MaxUint32)} {
		b := asWritten(p)
		for i := 60; i < 64; i++ {
			for x := range 256 {
				c := with(b, i, byte(x))
				if bytes.Equal(c, b) {
					continue
				}
				refused(t, "P3.1: a wrong sum", c, api.ECRC)
				refused(t, "P3.1: a wrong sum and a wrong kind", with(c, 0, 4), api.ECRC)
				refused(t, "P3.1: a wrong sum and a byte 1 to 3", with(c, 1+i%3, 1), api.ECRC)
			}
		}
	}
}

func TestDecodeAsksForTheFormLast(t *testing.T) {
	for _, p := range []api.Page{ordinary(api.Data), extreme(api.Snap, 0), extreme(api.Log, math.MaxUint32)} {
		b := asWritten(p)
		for x := range 256 {
			c := summed(with(b, 0, byte(x)))
			if x < 1 || x > 3 {
				refused(t, "P3.1: a right sum and a wrong kind", c, api.EFORM)
				continue
			}
			q := p
			q.Kind = x
			if got, e := Decode(c); got != q || e != api.OK {
				t.Errorf("P3.1: Decode of the kind %d: %v, %d; want %v", x, got, e, q)
			}
		}
		for i := 1; i <= 3; i++ {
			for x := 1; x < 256; x++ {
				refused(t, "P3.1: a right sum and a byte 1 to 3", summed(with(b, i, byte(x))), api.EFORM)
				refused(t, "P3.1: a right sum, a byte 1 to 3 and a wrong kind", summed(with(with(b, i, byte(x)), 0, 4)), api.EFORM)
			}
		}
	}
}

func TestEachByteChanged(t *testing.T) {
	for _, p := range []api.Page{ordinary(api.Data), extreme(api.Snap, 0), extreme(api.Log, math.MaxUint32)} {
		b := asWritten(p)
		for i := range b {
			want := api.ECRC
			if i >= 64 {
				want = api.ETORN
			}
			for x := range 256 {
				if c := with(b, i, byte(x)); !bytes.Equal(c, b) {
					refused(t, "P3.1: a byte changed", c, want)
				}
			}
		}
	}
}

func TestFirstChunks(t *testing.T) {
	for _, p := range pages() {
		b := encoded(t, p)
		for k := range api.PageChunks + 1 {
			c := append(bytes.Clone(b[:k*api.ChunkBytes]), alike(api.PageBytes-k*api.ChunkBytes, 255)...)
			if Clean(c) != (k == 0) {
				t.Errorf("P3.1: Clean of %d chunks of %v: %v", k, p, Clean(c))
			}
			switch k {
			case 0:
				refused(t, "P3.2: no chunk", c, api.ENONE)
			case api.PageChunks:
				if q, e := Decode(c); q != p || e != api.OK {
					t.Errorf("P3.2: Decode of all chunks of %v: %v, %d", p, q, e)
				}
			default:
				refused(t, "P3.2: some chunks", c, api.ETORN)
			}
		}
	}
}

func TestClean(t *testing.T) {
	all := alike(api.PageBytes, 255)
	if !Clean(all) {
		t.Error("P3.1: Clean of a page of 255 is false")
	}
	if Clean(nil) || Clean([]byte{}) || Clean(all[:0]) {
		t.Error("P3.1: Clean of no bytes is true")
	}
	for n := range 3 * api.PageBytes {
		if got := Clean(alike(n, 255)); got != (n == api.PageBytes) {
			t.Errorf("P3.1: Clean of %d bytes 255: %v", n, got)
		}
	}
	for i := range all {
		for x := range 255 {
			if Clean(with(all, i, byte(x))) {
				t.Errorf("P3.1: Clean of a page with %d at %d is true", x, i)
			}
		}
	}
	if Clean(make([]byte, api.PageBytes)) || Clean(asWritten(ordinary(api.Data))) {
		t.Error("P3.1: Clean of a written page is true")
	}
}

func TestBytesHandedInStayAsTheyAre(t *testing.T) {
	b := asWritten(ordinary(api.Log))
	for _, inner := range [][]byte{b, alike(68, 255), make([]byte, 68), with(b, 30, 0), with(b, 67, 0), summed(with(b, 2, 1)), b[:67], nil} {
		room := append(alike(16, 7), inner...)
		room = append(room, alike(100, 7)...)
		before := bytes.Clone(room)
		in := room[16 : 16+len(inner)]
		Decode(in)
		Clean(in)
		if !bytes.Equal(room, before) {
			t.Errorf("R4: the bytes handed in, or what stands beside them, were changed: %v", in)
		}
	}
}

func TestBytesHandedInAreNotKept(t *testing.T) {
	p := ordinary(api.Data)
	b := asWritten(p)
	q, _ := Decode(b)
	clear(b)
	if q != p {
		t.Error("R4: the page that was told changes with the bytes handed in")
	}
	refused(t, "R5: bytes that were a page", b, api.ETORN)
}

func TestBytesAnsweredAreNewMemory(t *testing.T) {
	p := ordinary(api.Data)
	first, second := encoded(t, p), encoded(t, p)
	room := first[:cap(first)]
	for i := range room {
		room[i] = 77
	}
	if !bytes.Equal(second, asWritten(p)) || !bytes.Equal(encoded(t, p), asWritten(p)) {
		t.Error("R4: two answers share memory")
	}
	room = second[:cap(second)]
	for i := range room {
		room[i] = 78
	}
	if !bytes.Equal(first, alike(api.PageBytes, 77)) || p != ordinary(api.Data) {
		t.Error("R4: an answer shares memory with another one, or with the page")
	}
}

func TestAnswersHangOnArgumentsAlone(t *testing.T) {
	p := ordinary(api.Snap)
	b := asWritten(p)
	for _, other := range append(walked(20), api.Page{Kind: 4}, api.Page{}) {
		Encode(other)
		Decode(asWritten(other))
		Decode(nil)
		Decode(alike(68, 255))
		Clean(b)
		if c := encoded(t, p); !bytes.Equal(c, b) {
			t.Fatalf("R5: Encode hangs on earlier calls: %v", c)
		}
		if q, e := Decode(b); q != p || e != api.OK {
			t.Fatalf("R5: Decode hangs on earlier calls: %v, %d", q, e)
		}
	}
}
