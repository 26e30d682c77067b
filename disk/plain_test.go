package disk

import (
	"math/big"

	"ferrule/api"
)

// plain is a disk by the chapters' words alone, byte by byte.
type plain []byte

// right tells whether a range is right, by whole numbers without bounds.
func (p plain) right(lba, n int) bool {
	end := new(big.Int).Add(big.NewInt(int64(lba)), big.NewInt(int64(n)))
	return n >= 1 && lba >= 0 && end.Cmp(big.NewInt(int64(len(p)/32))) <= 0
}

func (p plain) read(lba, n int) (string, api.Errno) {
	if !p.right(lba, n) {
		return "", api.EARG
	}
	return string(p[32*lba : 32*(lba+n)]), api.OK
}

func (p plain) write(lba, n int, data string) api.Errno {
	if !p.right(lba, n) {
		return api.EARG
	}
	for i := range 32 * n {
		p[32*lba+i] = 0
		if i < len(data) {
			p[32*lba+i] = data[i]
		}
	}
	return api.OK
}

func (p plain) fill(lba, n int, s string) api.Errno {
	if len(s) == 0 || !p.right(lba, n) {
		return api.EARG
	}
	for i := range 32 * n {
		p[32*lba+i] = s[i%len(s)]
	}
	return api.OK
}

func (p plain) copyTo(q plain, lba, n, at int) api.Errno {
	if !p.right(lba, n) || !q.right(at, n) {
		return api.EARG
	}
	was := append(plain{}, p...)
	for i := range 32 * n {
		q[32*at+i] = was[32*lba+i]
	}
	return api.OK
}

func (p plain) same(q plain, lba, n int) (bool, api.Errno) {
	if !p.right(lba, n) || !q.right(lba, n) {
		return false, api.EARG
	}
	for i := 32 * lba; i < 32*(lba+n); i++ {
		if p[i] != q[i] {
			return false, api.OK
		}
	}
	return true, api.OK
}
