package crc

import (
	"bytes"
	"hash/crc32"
	"math/rand"
	"slices"
	"testing"
)

// goOn works the number out by the document's words, bit by bit and without a table.
func goOn(number uint32, b []byte) uint32 {
	for _, c := range b {
		number ^= uint32(c)
		for range 8 {
			if number%2 == 1 {
				number = number/2 ^ 0xedb88320
			} else {
				number = number / 2
			}
		}
	}
	return number
}

func wantSum(b []byte) uint32 { return ^goOn(0xffffffff, b) }

// drawn is n bytes, the same at every run for the same seed.
func drawn(seed int64, n int) []byte {
	b := make([]byte, n)
	rand.New(rand.NewSource(seed)).Read(b)
	return b
}

// samples are bytes of many lengths: none, one of each value, all the same, rising, and drawn.
func samples() [][]byte {
	l := [][]byte{nil, {}, []byte("ab"), []byte("123456789"), bytes.Repeat([]byte{0}, 4096), bytes.Repeat([]byte{0xff}, 4096)}
	rising := make([]byte, 256)
	for i := range 256 {
		rising[i] = byte(i)
		l = append(l, []byte{byte(i)})
	}
	l = append(l, rising)
	for n := range 70 {
		l = append(l, make([]byte, n), bytes.Repeat([]byte{0xff}, n), drawn(int64(n), n))
	}
	return append(l, drawn(71, 200), drawn(72, 1<<16+1))
}

// sums are first arguments of More: the ends, single bits and the same turned, the divisor, and drawn ones.
func sums() []uint32 {
	l := []uint32{0, 0xffffffff, 7, 0xedb88320, 0xcbf43926, 0x12345678}
	for i := range 32 {
		l = append(l, 1<<i, ^(1 << i))
	}
	r := rand.New(rand.NewSource(5))
	for range 300 {
		l = append(l, r.Uint32())
	}
	return l
}

// bytesOf finds four bytes whose sum is that number, by going the eight times backwards.
func bytesOf(sum uint32) []byte {
	number := ^sum
	for range 32 {
		if number>>31 == 1 { // only the divisor sets the highest bit, so it was odd
			number = (number^0xedb88320)<<1 | 1
		} else {
			number <<= 1
		}
	}
	number ^= 0xffffffff
	return []byte{byte(number), byte(number >> 8), byte(number >> 16), byte(number >> 24)}
}

// P2.1: sums that are published, of no bytes and of some.
func TestSumKnown(t *testing.T) {
	for _, c := range []struct {
		b    string
		want uint32
	}{
		{"", 0}, {"a", 0xe8b7be43}, {"abc", 0x352441c2}, {"123456789", 0xcbf43926}, {"\x00", 0xd202ef8d}, {"\xff", 0xff000000},
		{"\x00\x00\x00\x00", 0x2144df1c}, {"\xff\xff\xff\xff", 0xffffffff}, {"The quick brown fox jumps over the lazy dog", 0x414fa339},
	} {
		if n := Sum([]byte(c.b)); n != c.want {
			t.Errorf("Sum(%q): %08x; asked %08x", c.b, n, c.want)
		}
	}
	if n := Sum(nil); n != 0 {
		t.Errorf("Sum(nil): %08x", n)
	}
}

// P2.1: sums are those of the document's words, and of the published way; arguments stay as they were.
func TestSum(t *testing.T) {
	for _, b := range samples() {
		given := slices.Clone(b)
		n := Sum(b)
		if want := wantSum(given); n != want || n != crc32.ChecksumIEEE(given) {
			t.Errorf("Sum of %d bytes: %08x; asked %08x", len(b), n, want)
		}
		if again := Sum(b); again != n {
			t.Errorf("Sum of %d bytes: %08x, and then %08x", len(b), n, again)
		}
		if !bytes.Equal(given, b) {
			t.Errorf("Sum changed its %d bytes", len(b))
		}
	}
}

// P2.1: More goes on from any sum as the document's words do, and without bytes stays there.
func TestMoreOfAnySum(t *testing.T) {
	parts := [][]byte{{0}, {1}, {0xff}, {0, 0, 0, 0}, []byte("abc"), drawn(6, 31), drawn(7, 257)}
	for _, sum := range sums() {
		if n, m := More(sum, nil), More(sum, []byte{}); n != sum || m != sum {
			t.Errorf("More(%08x) of no bytes: %08x, %08x", sum, n, m)
		}
		for _, b := range parts {
			given := slices.Clone(b)
			n := More(sum, b)
			if want := ^goOn(^sum, given); n != want || n != crc32.Update(sum, crc32.IEEETable, given) {
				t.Errorf("More(%08x, %x): %08x; asked %08x", sum, given, n, want)
			}
			if !bytes.Equal(given, b) {
				t.Errorf("More(%08x, %x) changed its bytes to %x", sum, given, b)
			}
		}
	}
}

// P2.1: any number is the sum of some bytes, and More tells the sum of these with others behind them.
func TestMoreOfBytesWithThatSum(t *testing.T) {
	for _, sum := range sums() {
		first := bytesOf(sum)
		if n := Sum(first); n != sum {
			t.Errorf("Sum(%x): %08x; asked %08x", first, n, sum)
		}
		for _, b := range [][]byte{nil, {0}, {0x80}, []byte("123456789"), drawn(8, 40)} {
			if n, want := More(sum, b), Sum(slices.Concat(first, b)); n != want {
				t.Errorf("More(%08x, %x): %08x; asked %08x", sum, b, n, want)
			}
		}
	}
}

// P2.1: the table at every place, the first and the last by their published numbers.
func TestTable(t *testing.T) {
	table := Table()
	for n := range 256 {
		if want := goOn(0, []byte{byte(n)}); table[n] != want || table[n] != crc32.IEEETable[n] {
			t.Errorf("at %d: %08x; asked %08x", n, table[n], want)
		}
	}
	for n, want := range map[int]uint32{0: 0, 1: 0x77073096, 2: 0xee0e612c, 128: 0xedb88320, 254: 0x5a05df1b, 255: 0x2d02ef8d} {
		if table[n] != want {
			t.Errorf("at %d: %08x; asked %08x", n, table[n], want)
		}
	}
}

// P2.1: a table that is written to is the caller's own, and changes no later answer.
func TestTableIsNotKept(t *testing.T) {
	table := Table()
	for n := range table {
		table[n] = 1
	}
	if other := Table(); other[0] != 0 || other[255] != 0x2d02ef8d {
		t.Errorf("a later table: %08x, %08x", other[0], other[255])
	}
	if n := Sum([]byte("123456789")); n != 0xcbf43926 {
		t.Errorf("a later sum: %08x", n)
	}
}

// P2.2: the sum of parts is that of all, wherever they are parted, in two and in three, and byte by byte.
func TestSumsOfParts(t *testing.T) {
	for _, b := range [][]byte{nil, {0}, []byte("ab"), []byte("123456789"), make([]byte, 40), bytes.Repeat([]byte{0xff}, 40), drawn(9, 70)} {
		want := Sum(b)
		for i := range len(b) + 1 {
			if n := More(Sum(b[:i]), b[i:]); n != want {
				t.Errorf("%x parted at %d: %08x; asked %08x", b, i, n, want)
			}
			for k := i; k <= len(b); k++ {
				if n := More(More(Sum(b[:i]), b[i:k]), b[k:]); n != want {
					t.Errorf("%x parted at %d and %d: %08x; asked %08x", b, i, k, n, want)
				}
			}
		}
		n := Sum(nil)
		for i := range b {
			n = More(n, b[i:i+1])
		}
		if n != want {
			t.Errorf("%x byte by byte: %08x; asked %08x", b, n, want)
		}
	}
}

// turned is b with the bits of pattern turned from a place on. Each byte's lowest bit comes first, as it is divided:
// the other way round some patterns of 31 or 32 bits across five bytes would leave the sum as it was.
func turned(b []byte, place int, pattern uint32) []byte {
	out := slices.Clone(b)
	for i := range 32 {
		if pattern>>i&1 == 1 {
			out[(place+i)/8] ^= 1 << ((place + i) % 8)
		}
	}
	return out
}

// messages are bytes in which bits are turned.
func messages() [][]byte {
	return [][]byte{{0}, {0xff}, []byte("ab"), []byte("abc"), make([]byte, 4), []byte("123456789"), bytes.Repeat([]byte{0xff}, 12), drawn(10, 40)}
}

// P2.2: a run of turned bits of every length up to 32, at every place, within bytes and across them, is found.
func TestTurnedRunsAreFound(t *testing.T) {
	for _, b := range messages() {
		sum, bits := Sum(b), len(b)*8
		for place := range bits {
			for long := 1; long <= min(32, bits-place); long++ {
				all := uint32(1<<long - 1)
				ends := uint32(1 | 1<<(long-1))
				for _, pattern := range []uint32{all, ends, all & 0x55555555, all&0x99999999 | ends} {
					if Sum(turned(b, place, pattern)) == sum {
						t.Fatalf("%x: bits %08x turned at %d: the same sum", b, pattern, place)
					}
				}
			}
		}
	}
}

// P2.2: drawn patterns at every place are found, also by More, from any sum.
func TestTurnedDrawsAreFound(t *testing.T) {
	r := rand.New(rand.NewSource(11))
	b := drawn(12, 24)
	for place := range len(b)*8 - 31 {
		for range 200 {
			pattern, sum := r.Uint32(), r.Uint32()
			other := turned(b, place, pattern)
			if pattern != 0 && (Sum(other) == Sum(b) || More(sum, other) == More(sum, b)) {
				t.Fatalf("%x: bits %08x turned at %d: the same sum", b, pattern, place)
			}
		}
	}
}

// P2.2: no two of all messages of two bytes have the same sum, from whatever sum they go on.
func TestTwoBytesAreAllUnlike(t *testing.T) {
	for _, first := range []uint32{0, 0xffffffff, 0x12345678} {
		seen := map[uint32]int{}
		for n := range 1 << 16 {
			sum := More(first, []byte{byte(n), byte(n >> 8)})
			if m, ok := seen[sum]; ok {
				t.Fatalf("from %08x: %04x and %04x have the sum %08x", first, m, n, sum)
			}
			seen[sum] = n
		}
	}
}

// apart tells how many of the numbers aren't xor-ed together of others.
func apart(l []uint32) int {
	var kept []uint32
	for _, n := range l {
		for _, k := range kept {
			n = min(n, n^k)
		}
		if n != 0 {
			kept = append(kept, n)
		}
	}
	return len(kept)
}

// P2.2: for each 32 places, one behind the other, all the patterns there are held at once: what a pattern changes is what
// its bits change, xor-ed, and no bit's change comes of the others', so that no pattern but none leaves the sum as it was.
func TestAllPatternsAreFound(t *testing.T) {
	r := rand.New(rand.NewSource(13))
	for _, b := range messages() {
		sum, bits := Sum(b), len(b)*8
		changes := make([]uint32, bits)
		for place := range bits {
			changes[place] = Sum(turned(b, place, 1)) ^ sum
		}
		long := min(32, bits)
		for place := range bits - long + 1 {
			window := changes[place : place+long]
			if n := apart(window); n != long {
				t.Fatalf("%x: of %d bits from %d on only %d are apart", b, long, place, n)
			}
			pattern, want := r.Uint32()>>(32-long), sum
			for i, change := range window {
				if pattern>>i&1 == 1 {
					want ^= change
				}
			}
			if n := Sum(turned(b, place, pattern)); n != want {
				t.Fatalf("%x: bits %08x turned at %d: %08x; asked %08x", b, pattern, place, n, want)
			}
		}
	}
}
