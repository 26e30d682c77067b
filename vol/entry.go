package vol

import (
	"strings"
	"unicode/utf8"

	"ferrule/api"
	"ferrule/crc"
)

// Where what stands in an entry's sector.
const (
	atMark   = 0
	atLength = 1
	atName   = 2
	atFirst  = 18
	atLen    = 20
	atSum    = 22
	atRest   = 26
)

const (
	mark     = 'V'
	maxName  = atFirst - atName
	greatest = 1<<16 - 1 // the greatest number that an entry's two bytes tell
)

const (
	lowest  = 33  // no rune of a name is below it
	deleted = 127 // nor is this one a name's
	// replacement is the rune that range answers for a byte that is none, in the
	// three bytes in which it is a rune itself.
	replacement = "\ufffd"
)

// Good tells whether a name may be.
func Good(name string) bool {
	if name == "" || len(name) > maxName {
		return false
	}
	for i, r := range name {
		if r < lowest || r == deleted || !isRune(name, i, r) {
			return false
		}
	}
	return true
}

// isRune says whether r, which range found at i, stands there: range answers the same
// rune for a byte that is none as for the replacement itself.
func isRune(name string, i int, r rune) bool {
	return r != utf8.RuneError || strings.HasPrefix(name[i:], replacement)
}

// bytes tells a volume's entry as it stands on the disk.
func (v Entry) bytes() string {
	b := make([]byte, api.SectorBytes)
	b[atMark] = mark
	b[atLength] = byte(len(v.Name))
	copy(b[atName:atFirst], v.Name)
	putNumber(b[atFirst:atLen], v.First)
	putNumber(b[atLen:atSum], v.Len)
	putNumber(b[atSum:atRest], int(crc.Sum(b[:atSum])))
	return string(b)
}

// parse reads an entry of a disk of so many sectors: false, if it is free.
func parse(entry string, sectors int) (Entry, bool) {
	if len(entry) != api.SectorBytes || int(entry[atLength]) > maxName {
		return Entry{}, false
	}
	v := Entry{
		Name:  strings.Clone(entry[atName : atName+int(entry[atLength])]),
		First: getNumber(entry[atFirst:atLen]),
		Len:   getNumber(entry[atLen:atSum]),
	}
	if !Good(v.Name) || v.First < entries || v.Len < 1 || v.Len > sectors-v.First {
		return Entry{}, false
	}
	// Told anew it must be the same bytes: its mark, its sum and its noughts are asked
	// so.
	if v.bytes() != entry {
		return Entry{}, false
	}
	return v, true
}

// sector tells one of the sectors that were read, nothing if the disk told fewer bytes
// than it was asked for.
func sector(all string, i int) string {
	end := (i + 1) * api.SectorBytes
	if end > len(all) {
		return ""
	}
	return all[end-api.SectorBytes : end]
}

// putNumber writes a number in as many bytes as there are, the lowest one first.
func putNumber(b []byte, n int) {
	for i := range b {
		b[i] = byte(n >> (8 * i))
	}
}

// getNumber reads what putNumber wrote.
func getNumber(s string) int {
	n := 0
	for i := range len(s) {
		n |= int(s[i]) << (8 * i)
	}
	return n
}
