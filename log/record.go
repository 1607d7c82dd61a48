package log

import (
	"groupage/api"
	"groupage/crc"
)

const (
	mark        = 165 // the last byte of a sector that counts: a torn write never gets to it
	markAt      = api.Sector - 1
	mostBytes   = 200 // of a record
	lengthBytes = 2
	topBytes    = 10           // of a record's length, generation and place, which its sum covers
	ownAt       = topBytes + 4 // where the record's own bytes begin, in its first sector
	firstBytes  = markAt - ownAt
)

// headOf tells the head of a generation.
func headOf(generation int) []byte {
	head := make([]byte, api.Sector)
	layNumber(head[:4], uint32(generation))
	layNumber(head[4:8], crc.Sum(head[:4]))
	head[markAt] = mark
	return head
}

// sectorsOf tells how many sectors a record of so many bytes has.
func sectorsOf(length int) int {
	further := max(length-firstBytes, 0)
	return 1 + (further+api.Sector-1)/api.Sector
}

// recordOf tells the bytes of all sectors of a record.
func recordOf(b []byte, generation, place int) []byte {
	laid := make([]byte, sectorsOf(len(b))*api.Sector)
	layNumber(laid[:lengthBytes], uint32(len(b)))
	layNumber(laid[lengthBytes:6], uint32(generation))
	layNumber(laid[6:topBytes], uint32(place))
	layNumber(laid[topBytes:ownAt], crc.More(crc.Sum(laid[:topBytes]), b))
	first := copy(laid[ownAt:markAt], b)
	laid[markAt] = mark
	copy(laid[api.Sector:], b[first:])
	return laid
}

// bytesOf tells a record's own bytes, of its sectors'.
func bytesOf(laid []byte, length int) []byte {
	b := make([]byte, length)
	first := copy(b, laid[ownAt:markAt])
	copy(b[first:], laid[api.Sector:])
	return b
}

// layNumber fills bytes by a number's lowest ones, the highest first.
func layNumber(to []byte, n uint32) {
	for i := len(to) - 1; i >= 0; i-- {
		to[i] = byte(n)
		n >>= 8
	}
}

// number tells the number of bytes, the highest first.
func number(b []byte) int {
	n := 0
	for _, c := range b {
		n = n<<8 | int(c)
	}
	return n
}

// isWiped tells whether all bytes are 0.
func isWiped(b []byte) bool {
	for _, c := range b {
		if c != 0 {
			return false
		}
	}
	return true
}
