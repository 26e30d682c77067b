package vol

import (
	"bytes"
	"hash/crc32"
	"math/big"
	"strings"
	"unicode/utf8"

	"ferrule/api"
)

// plainRight tells whether a range is right, by whole numbers without bounds.
func plainRight(sectors, lba, n int) bool {
	end := new(big.Int).Add(big.NewInt(int64(lba)), big.NewInt(int64(n)))
	return n >= 1 && lba >= 0 && end.Cmp(big.NewInt(int64(sectors))) <= 0
}

// plainRead and plainWrite are chapter 17's words on bytes.
func plainRead(content string, lba, n int) (string, api.Errno) {
	if !plainRight(len(content)/32, lba, n) {
		return "", api.EARG
	}
	return content[32*lba : 32*(lba+n)], api.OK
}

func plainWrite(content string, lba, n int, data string) (string, api.Errno) {
	if !plainRight(len(content)/32, lba, n) {
		return content, api.EARG
	}
	return content[:32*lba] + (data + strings.Repeat("\x00", 32*n))[:32*n] + content[32*(lba+n):], api.OK
}

// plainGood tells whether a name may be, by the chapter's words.
func plainGood(name string) bool {
	if len(name) < 1 || len(name) > 16 || !utf8.ValidString(name) {
		return false
	}
	for rest := []byte(name); len(rest) > 0; {
		r, n := utf8.DecodeRune(rest)
		if r < 33 || r == 127 {
			return false
		}
		rest = rest[n:]
	}
	return true
}

// laid is an entry's sector with any name of up to 16 bytes, laid byte by byte.
func laid(name string, first, n int) string {
	b := make([]byte, 32)
	b[0], b[1] = 'V', byte(len(name))
	copy(b[2:18], name)
	b[18], b[19] = byte(first%256), byte(first/256%256)
	b[20], b[21] = byte(n%256), byte(n/256%256)
	return summed(string(b))
}

// summed is a sector with the sum of its bytes 0 to 21 set right.
func summed(s string) string {
	sum := crc32.ChecksumIEEE([]byte(s[:22]))
	return s[:22] + string([]byte{byte(sum), byte(sum >> 8), byte(sum >> 16), byte(sum >> 24)}) + s[26:]
}

// plainEntry reads an entry by itself, by the chapter's words.
func plainEntry(s string, sectors int) (Entry, bool) {
	b := []byte(s)
	if b[0] != 'V' || b[1] > 16 {
		return Entry{}, false
	}
	name, behind := b[2:2+b[1]], b[2+b[1]:18]
	if !plainGood(string(name)) || len(bytes.Trim(behind, "\x00")) > 0 || len(bytes.Trim(b[26:], "\x00")) > 0 {
		return Entry{}, false
	}
	if summed(s) != s {
		return Entry{}, false
	}
	first, n := int(b[18])+256*int(b[19]), int(b[20])+256*int(b[21])
	if n < 1 || first < 8 || first+n > sectors {
		return Entry{}, false
	}
	return Entry{string(name), first, n}, true
}

// plain is a Store and its disk by the chapter's words: which volume has a sector is
// kept sector by sector.
type plain struct {
	content string
	volumes [8]*Entry
	owner   []int // of each sector the number of the entry, or -1
	stale   int   // how many entries are free because of one ahead of them alone
}

func plainOpen(content string) *plain {
	p := &plain{content: content}
	for range len(content) / 32 {
		p.owner = append(p.owner, -1)
	}
	for i := range 8 {
		v, ok := plainEntry(content[32*i:32*i+32], len(p.owner))
		if !ok {
			continue
		}
		if p.number(v.Name) >= 0 || !p.unowned(v.First, v.Len) {
			p.stale++
			continue
		}
		p.put(i, v)
	}
	return p
}

func (p *plain) put(i int, v Entry) {
	p.volumes[i] = &v
	for k := range v.Len {
		p.owner[v.First+k] = i
	}
}

func (p *plain) unowned(first, n int) bool {
	for k := range n {
		if first+k >= len(p.owner) || p.owner[first+k] >= 0 {
			return false
		}
	}
	return true
}

func (p *plain) number(name string) int {
	for i, v := range p.volumes {
		if v != nil && v.Name == name {
			return i
		}
	}
	return -1
}

func (p *plain) all() []Entry {
	var l []Entry
	for _, v := range p.volumes {
		if v != nil {
			l = append(l, *v)
		}
	}
	return l
}

func (p *plain) free() int {
	n := 0
	for lba := 8; lba < len(p.owner); lba++ {
		if p.owner[lba] < 0 {
			n++
		}
	}
	return n
}

func (p *plain) write(lba, n int, data string) {
	p.content, _ = plainWrite(p.content, lba, n, data)
}

func (p *plain) create(name string, n int) api.Errno {
	if !plainGood(name) || n < 1 || n > 512 {
		return api.EARG
	}
	if p.number(name) >= 0 {
		return api.EORDER
	}
	return p.add(name, n, "")
}

// add takes sectors, writes bytes there, and an entry.
func (p *plain) add(name string, n int, data string) api.Errno {
	entry := 0
	for entry < 8 && p.volumes[entry] != nil {
		entry++
	}
	first := 8
	for first < len(p.owner) && !p.unowned(first, n) {
		first++
	}
	if entry == 8 || first == len(p.owner) {
		return api.EFULL
	}
	p.write(first, n, data)
	p.write(entry, 1, laid(name, first, n))
	p.put(entry, Entry{name, first, n})
	return api.OK
}

func (p *plain) delete(name string) api.Errno {
	i := p.number(name)
	if i < 0 {
		return api.ENONE
	}
	p.write(i, 1, "")
	p.volumes[i] = nil
	for lba, k := range p.owner {
		if k == i {
			p.owner[lba] = -1
		}
	}
	return api.OK
}

// second tells why a volume gets no second name.
func (p *plain) second(name, to string) api.Errno {
	if p.number(name) < 0 {
		return api.ENONE
	}
	if !plainGood(to) {
		return api.EARG
	}
	if p.number(to) >= 0 {
		return api.EORDER
	}
	return api.OK
}

func (p *plain) rename(name, to string) api.Errno {
	if e := p.second(name, to); e != api.OK {
		return e
	}
	i := p.number(name)
	v := p.volumes[i]
	v.Name = to
	p.write(i, 1, laid(to, v.First, v.Len))
	return api.OK
}

func (p *plain) clone(name, to string) api.Errno {
	if e := p.second(name, to); e != api.OK {
		return e
	}
	v := p.volumes[p.number(name)]
	return p.add(to, v.Len, p.content[32*v.First:32*(v.First+v.Len)])
}

func (p *plain) read(name string, at, n int) (string, api.Errno) {
	i := p.number(name)
	if i < 0 {
		return "", api.ENONE
	}
	v := p.volumes[i]
	return plainRead(p.content[32*v.First:32*(v.First+v.Len)], at, n)
}

func (p *plain) writeTo(name string, at, n int, data string) api.Errno {
	i := p.number(name)
	if i < 0 {
		return api.ENONE
	}
	v := p.volumes[i]
	if !plainRight(v.Len, at, n) {
		return api.EARG
	}
	p.write(v.First+at, n, data)
	return api.OK
}
