package disk

import (
	"bytes"
	"math"
	"math/rand"
	"slices"
	"testing"

	"groupage/api"
)

// model is a disk by the document's words: the bytes of all sectors in one row, changed one by one.
type model struct {
	bytes  []byte
	power  bool
	fused  bool
	fuse   int
	torn   int
	writes int
}

func newModel(sectors int) *model {
	return &model{bytes: make([]byte, 32*sectors), power: true}
}

func (m *model) write(at int, b []byte) api.Errno {
	if at < 0 || at >= len(m.bytes)/32 {
		return api.ErrName
	}
	if len(b) > 32 {
		return api.ErrArg
	}
	if !m.power {
		return api.ErrDown
	}
	gone, laid := m.fused && m.fuse == 0, 32
	if gone {
		laid = m.torn
	}
	for i := range laid {
		m.bytes[32*at+i] = 0
		if i < len(b) {
			m.bytes[32*at+i] = b[i]
		}
	}
	if gone {
		m.power = false
		return api.ErrDown
	}
	m.writes++
	m.fuse--
	return api.OK
}

func (m *model) setFuse(writes, torn int) {
	m.fused, m.fuse, m.torn = writes >= 0, writes, torn
	if torn < 0 {
		m.torn = 0
	}
	if torn > 32 {
		m.torn = 32
	}
}

func (m *model) crash() {
	m.power, m.fused = true, false
}

func (m *model) turn(at int, by byte) api.Errno {
	if at < 0 || at >= len(m.bytes) {
		return api.ErrName
	}
	m.bytes[at] ^= by
	return api.OK
}

// made is a new disk of that many sectors.
func made(t *testing.T, sectors int) *Disk {
	t.Helper()
	d, e := New(sectors)
	if e != api.OK || d == nil {
		t.Fatalf("New(%d): %v, %d", sectors, d, e)
	}
	return d
}

// full is a new disk whose bytes are all unlike 0 and unlike those near them; n writes were done.
func full(t *testing.T, n int) *Disk {
	t.Helper()
	d := made(t, n)
	for at := range n {
		wrote(t, d, at, row(at+1, 32), api.OK)
	}
	return d
}

// row is n bytes from 1 to 251; with two of them or more, no two seeds of 0 to 4096 have the same.
func row(seed, n int) []byte {
	b := make([]byte, n)
	for i := range b {
		b[i] = byte(1 + (seed*97+i*(5+seed/251))%251)
	}
	return b
}

// all tells the bytes of all sectors, one behind the other.
func all(t *testing.T, d *Disk) []byte {
	t.Helper()
	var l []byte
	for at := range d.Sectors() {
		b, e := d.Read(at)
		if e != api.OK || len(b) != 32 {
			t.Fatalf("Read(%d): %d bytes, %d", at, len(b), e)
		}
		l = append(l, b...)
	}
	return l
}

func wrote(t *testing.T, d *Disk, at int, b []byte, want api.Errno) {
	t.Helper()
	if e := d.Write(at, b); e != want {
		t.Fatalf("Write(%d) of %d bytes: %d; asked %d", at, len(b), e, want)
	}
}

func turned(t *testing.T, d *Disk, at int, by byte, want api.Errno) {
	t.Helper()
	if e := d.Turn(at, by); e != want {
		t.Fatalf("Turn(%d, %d): %d; asked %d", at, by, e, want)
	}
}

// has holds all that can be read of a disk against what is asked.
func has(t *testing.T, d *Disk, want []byte, writes int) {
	t.Helper()
	if got := all(t, d); !bytes.Equal(got, want) {
		t.Fatalf("it has\n%x; asked\n%x", got, want)
	}
	if d.Writes() != writes {
		t.Fatalf("Writes(): %d; asked %d", d.Writes(), writes)
	}
}

// isDown holds that there is no power: no sector takes a byte.
func isDown(t *testing.T, d *Disk) {
	t.Helper()
	before, writes := all(t, d), d.Writes()
	for at := range d.Sectors() {
		wrote(t, d, at, []byte("lost"), api.ErrDown)
		wrote(t, d, at, nil, api.ErrDown)
	}
	has(t, d, before, writes)
}

// off takes the power of a disk, of whose bytes none changes.
func off(t *testing.T, d *Disk) {
	t.Helper()
	before, writes := all(t, d), d.Writes()
	d.Fuse(0, 0)
	wrote(t, d, 0, []byte("lost"), api.ErrDown)
	has(t, d, before, writes)
}

// noSectors are numbers of sectors that a disk of n sectors doesn't have.
func noSectors(n int) []int {
	return []int{-1, -2, -31, -32, -33, -4096, math.MinInt, n, n + 1, 2 * n, 32 * n, 4096, 4097, math.MaxInt}
}

// P4.1: a disk of 2 to 4096 sectors is made, all 0; of no other number.
func TestNew(t *testing.T) {
	for _, n := range []int{2, 3, 4, 31, 32, 33, 4095, 4096} {
		d := made(t, n)
		if d.Sectors() != n {
			t.Errorf("New(%d): %d sectors", n, d.Sectors())
		}
		has(t, d, make([]byte, 32*n), 0)
	}
	for _, n := range []int{1, 0, -1, -2, -4096, math.MinInt, 4097, 4098, 8192, 1 << 32, 1<<32 + 2, math.MaxInt} {
		if d, e := New(n); d != nil || e != api.ErrArg {
			t.Errorf("New(%d): %v, %d; asked none, %d", n, d, e, api.ErrArg)
		}
	}
}

// P4.1: a new disk has power and no fuse: whatever is written, nothing fails.
func TestNewHasPowerAndNoFuse(t *testing.T) {
	for _, n := range []int{2, 4096} {
		d := made(t, n)
		for i := range 3 * n {
			wrote(t, d, i%n, row(i, 32), api.OK)
		}
		if d.Writes() != 3*n || d.Sectors() != n {
			t.Errorf("%d writes, %d sectors", d.Writes(), d.Sectors())
		}
	}
}

// P4.1: each sector is read for itself; one that isn't there is ErrName, with no bytes, with power and without.
func TestRead(t *testing.T) {
	for _, n := range []int{2, 5, 4096} {
		d := full(t, n)
		for range 2 {
			for at := range n {
				if b, e := d.Read(at); e != api.OK || !bytes.Equal(b, row(at+1, 32)) {
					t.Fatalf("Read(%d) of %d: %x, %d", at, n, b, e)
				}
			}
			for _, at := range noSectors(n) {
				if at >= 0 && at < n {
					continue
				}
				if b, e := d.Read(at); b != nil || e != api.ErrName {
					t.Fatalf("Read(%d) of %d: %x, %d; asked none, %d", at, n, b, e, api.ErrName)
				}
			}
			off(t, d)
		}
	}
}

// P4.1: bytes that were read are the caller's own: neither side sees what the other changes.
func TestReadSharesNothing(t *testing.T) {
	d := full(t, 3)
	before := all(t, d)
	first, _ := d.Read(1)
	second, _ := d.Read(1)
	kept := slices.Clone(first)
	clear(second)
	second = append(second, 1, 2, 3)
	if !bytes.Equal(first, kept) {
		t.Errorf("one answer changed with another: %x", first)
	}
	has(t, d, before, 3)
	wrote(t, d, 1, []byte("anew"), api.OK)
	turned(t, d, 32, 9, api.OK)
	if !bytes.Equal(first, kept) {
		t.Errorf("an answer changed with the disk: %x", first)
	}
}

// P4.1: only writes that had no error count.
func TestWritesCountsThoseWithoutError(t *testing.T) {
	d := made(t, 2)
	want := 0
	count := func(e, asked api.Errno) {
		t.Helper()
		if e == api.OK {
			want++
		}
		if e != asked || d.Writes() != want {
			t.Fatalf("%d, asked %d; Writes(): %d, asked %d", e, asked, d.Writes(), want)
		}
	}
	count(d.Write(0, []byte("a")), api.OK)
	count(d.Write(0, []byte("a")), api.OK)
	count(d.Write(1, nil), api.OK)
	count(d.Write(2, nil), api.ErrName)
	count(d.Write(-1, nil), api.ErrName)
	count(d.Write(0, make([]byte, 33)), api.ErrArg)
	d.Turn(0, 1)
	d.Read(0)
	d.Fuse(1, 32)
	count(d.Write(1, []byte("b")), api.OK)
	count(d.Write(1, []byte("whole, but torn")), api.ErrDown)
	count(d.Write(1, []byte("c")), api.ErrDown)
	d.Crash()
	count(d.Write(1, []byte("d")), api.OK)
}

// P4.1: each byte of all sectors is turned for itself, and by each number.
func TestTurn(t *testing.T) {
	for _, n := range []int{2, 3, 7} {
		d := full(t, n)
		want := all(t, d)
		for at := range 32 * n {
			by := byte(1 + (at*37)%255)
			turned(t, d, at, by, api.OK)
			want[at] ^= by
			has(t, d, want, n)
		}
		for by := range 256 {
			for _, at := range []int{0, 31, 32, 32*n - 1} {
				turned(t, d, at, byte(by), api.OK)
				want[at] ^= byte(by)
				has(t, d, want, n)
			}
		}
	}
	d := made(t, 4096)
	turned(t, d, 32*4096-1, 255, api.OK)
	if b, _ := d.Read(4095); !bytes.Equal(b, append(make([]byte, 31), 255)) {
		t.Errorf("the last sector: %x", b)
	}
}

// P4.1: a byte that is turned twice is as it was, and by 0 it stays; a byte that isn't there is ErrName.
func TestTurnBackByNoneAndWhereNoneIs(t *testing.T) {
	d := full(t, 3)
	before := all(t, d)
	for at := range 96 {
		turned(t, d, at, 0, api.OK)
		has(t, d, before, 3)
		turned(t, d, at, 0xa5, api.OK)
		turned(t, d, at, 0xa5, api.OK)
		has(t, d, before, 3)
	}
	for _, at := range []int{-1, -2, -31, -32, -33, -96, math.MinInt, 96, 97, 127, 128, 1 << 40, math.MaxInt} {
		for _, by := range []byte{0, 1, 255} {
			turned(t, d, at, by, api.ErrName)
			has(t, d, before, 3)
		}
	}
	off(t, d)
	turned(t, d, -1, 1, api.ErrName)
	turned(t, d, 96, 1, api.ErrName)
	has(t, d, before, 3)
}

// P4.1: Turn goes without power too, brings none, and takes nothing from a fuse.
func TestTurnLeavesPowerAndFuse(t *testing.T) {
	d := full(t, 2)
	want := all(t, d)
	off(t, d)
	turned(t, d, 0, 3, api.OK)
	turned(t, d, 63, 0, api.OK)
	turned(t, d, 63, 128, api.OK)
	want[0] ^= 3
	want[63] ^= 128
	has(t, d, want, 2)
	isDown(t, d)
	d.Crash()
	d.Fuse(1, 0)
	for at := range 64 {
		turned(t, d, at, 1, api.OK)
	}
	wrote(t, d, 0, nil, api.OK)
	wrote(t, d, 0, nil, api.ErrDown)
}

// P4.2: from no byte up to 32 are written, and filled up by 0; the other sectors stay.
func TestWrite(t *testing.T) {
	for at := range 4 {
		for length := range 33 {
			d := full(t, 4)
			want := all(t, d)
			b := row(99, length)
			wrote(t, d, at, b, api.OK)
			clear(want[32*at : 32*at+32])
			copy(want[32*at:], b)
			has(t, d, want, 5)
			if !bytes.Equal(b, row(99, length)) {
				t.Fatalf("Write changed its %d bytes", length)
			}
			clear(b)
			has(t, d, want, 5)
		}
	}
	d := full(t, 2)
	wrote(t, d, 0, nil, api.OK)
	wrote(t, d, 1, []byte{}, api.OK)
	has(t, d, make([]byte, 64), 4)
}

// P4.2: what stands behind b, where it is a part of a longer list, isn't written.
func TestWriteTakesNoMoreThanItsBytes(t *testing.T) {
	d := full(t, 2)
	long := bytes.Repeat([]byte("x"), 64)
	wrote(t, d, 1, long[:3], api.OK)
	has(t, d, slices.Concat(row(1, 32), []byte("xxx"), make([]byte, 29)), 3)
}

// P4.2: more than 32 bytes, and sectors that aren't there, change nothing.
func TestWriteWrong(t *testing.T) {
	d := full(t, 3)
	before := all(t, d)
	for _, length := range []int{33, 34, 64, 96, 5000} {
		for at := range 3 {
			wrote(t, d, at, make([]byte, length), api.ErrArg)
			has(t, d, before, 3)
		}
	}
	for _, at := range noSectors(3) {
		wrote(t, d, at, []byte("abc"), api.ErrName)
		has(t, d, before, 3)
	}
	wrote(t, d, 2, row(7, 32), api.OK)
}

// P4.2: of several errors the one named first is answered, and it leaves sectors, power and fuse as they were.
func TestWriteFirstError(t *testing.T) {
	prepare := []struct {
		name string
		do   func(*Disk)
		want api.Errno
	}{
		{"power", func(*Disk) {}, api.OK},
		{"a fuse of 1", func(d *Disk) { d.Fuse(1, 32) }, api.OK},
		{"a fuse of 0", func(d *Disk) { d.Fuse(0, 32) }, api.ErrDown},
		{"no power", func(d *Disk) { d.Fuse(0, 0); d.Write(0, nil) }, api.ErrDown},
		{"no power, and a fuse of 0", func(d *Disk) { d.Fuse(0, 0); d.Write(0, nil); d.Fuse(0, 32) }, api.ErrDown},
		{"no power, and a fuse of 5", func(d *Disk) { d.Fuse(0, 0); d.Write(0, nil); d.Fuse(5, 32) }, api.ErrDown},
	}
	for _, p := range prepare {
		d := full(t, 3)
		p.do(d)
		before := all(t, d)
		for range 3 {
			for _, at := range noSectors(3) {
				wrote(t, d, at, make([]byte, 33), api.ErrName)
				wrote(t, d, at, nil, api.ErrName)
			}
			wrote(t, d, 0, make([]byte, 33), api.ErrArg)
			wrote(t, d, 2, make([]byte, 40), api.ErrArg)
			has(t, d, before, 3)
		}
		if e := d.Write(1, []byte("a")); e != p.want {
			t.Errorf("%s: %d; asked %d", p.name, e, p.want)
		}
	}
}

// P4.2 and P4.3: a write is torn at every byte, for every length of what is written; torn is the nearest from 0 to 32.
func TestTorn(t *testing.T) {
	tears := []int{math.MinInt, -33, -32, 33, 34, 64, 1 << 40, math.MaxInt}
	for torn := -2; torn <= 32; torn++ {
		tears = append(tears, torn)
	}
	for _, torn := range tears {
		for length := range 33 {
			d := full(t, 3)
			want := all(t, d)
			b := row(99, length)
			d.Fuse(0, torn)
			wrote(t, d, 1, b, api.ErrDown)
			for i := range 32 {
				if i < torn {
					want[32+i] = 0
				}
				if i < torn && i < length {
					want[32+i] = b[i]
				}
			}
			has(t, d, want, 3)
			if !bytes.Equal(b, row(99, length)) {
				t.Fatalf("a torn Write changed its %d bytes", length)
			}
			isDown(t, d)
		}
	}
}

// P4.2 and P4.3: a fuse lets just as many writes through as its number says.
func TestFuseNumber(t *testing.T) {
	for number := range 70 {
		d := full(t, 3)
		want := all(t, d)
		d.Fuse(number, 5)
		for i := range number {
			b := row(10+i, i%33)
			wrote(t, d, i%3, b, api.OK)
			clear(want[32*(i%3) : 32*(i%3)+32])
			copy(want[32*(i%3):], b)
			has(t, d, want, 3+i+1)
		}
		wrote(t, d, 2, []byte("xy"), api.ErrDown)
		copy(want[64:], "xy\x00\x00\x00")
		has(t, d, want, 3+number)
		isDown(t, d)
	}
	d := made(t, 2)
	d.Fuse(math.MaxInt, 0)
	for i := range 1000 {
		wrote(t, d, i%2, row(i, 32), api.OK)
	}
}

// P4.3: a number below 0 is no fuse, ahead of writes, among them, and however torn.
func TestFuseBelowNone(t *testing.T) {
	for _, number := range []int{-1, -2, -33, -4096, math.MinInt} {
		for _, torn := range []int{-1, 0, 5, 32, 33} {
			d := made(t, 2)
			d.Fuse(number, torn)
			for i := range 100 {
				wrote(t, d, i%2, row(i, 32), api.OK)
			}
			d.Fuse(0, torn)
			d.Fuse(number, torn)
			for i := range 100 {
				wrote(t, d, i%2, row(i, 32), api.OK)
			}
			d.Fuse(3, torn)
			wrote(t, d, 0, nil, api.OK)
			d.Fuse(number, torn)
			for i := range 100 {
				wrote(t, d, i%2, row(i, 32), api.OK)
			}
			if d.Writes() != 301 {
				t.Errorf("Fuse(%d, %d): %d writes", number, torn, d.Writes())
			}
		}
	}
}

// P4.3: the last fuse counts, with its own number and its own tear; laying it writes nothing.
func TestFuseAnew(t *testing.T) {
	d := full(t, 2)
	before := all(t, d)
	d.Fuse(0, 32)
	d.Fuse(4, 1)
	d.Fuse(2, 3)
	has(t, d, before, 2)
	wrote(t, d, 0, []byte("abcdef"), api.OK)
	d.Fuse(2, 4)
	wrote(t, d, 0, []byte("ghijkl"), api.OK)
	wrote(t, d, 0, []byte("mnopqr"), api.OK)
	wrote(t, d, 0, []byte("stuvwx"), api.ErrDown)
	has(t, d, slices.Concat([]byte("stuvqr"), make([]byte, 26), row(2, 32)), 5)
}

// P4.3: without power a fuse brings none, whatever it is, and a crash takes it away.
func TestFuseWithoutPower(t *testing.T) {
	for _, number := range []int{-5, -1, 0, 1, 7} {
		d := full(t, 2)
		off(t, d)
		d.Fuse(number, 32)
		isDown(t, d)
		d.Crash()
		for i := range 50 {
			wrote(t, d, i%2, row(i, 32), api.OK)
		}
	}
}

// P4.3: a crash brings power and takes the fuse, with power and without, and changes no byte and no count.
func TestCrash(t *testing.T) {
	prepare := map[string]func(*Disk){
		"power":               func(*Disk) {},
		"a fuse of 0":         func(d *Disk) { d.Fuse(0, 7) },
		"a fuse of 2":         func(d *Disk) { d.Fuse(2, 7) },
		"no power":            func(d *Disk) { d.Fuse(0, 7); d.Write(1, nil) },
		"no power for writes": func(d *Disk) { d.Fuse(0, 7); d.Write(1, nil); d.Write(0, []byte("lost")) },
		"a crash":             func(d *Disk) { d.Fuse(0, 7); d.Write(1, nil); d.Crash() },
	}
	for name, do := range prepare {
		d := full(t, 3)
		do(d)
		want, writes := all(t, d), d.Writes()
		d.Crash()
		has(t, d, want, writes)
		for i := range 20 {
			if e := d.Write(2, row(i, 32)); e != api.OK {
				t.Fatalf("%s, and a crash: %d", name, e)
			}
		}
		has(t, d, slices.Concat(want[:64], row(19, 32)), writes+20)
	}
}

// P4.3: behind a crash a disk is fused and torn anew.
func TestCrashAndFuseAnew(t *testing.T) {
	d := made(t, 2)
	for round := range 40 {
		torn := round % 33
		d.Fuse(1, torn)
		wrote(t, d, 1, row(round, 32), api.OK)
		wrote(t, d, 1, row(round+1, 32), api.ErrDown)
		want := slices.Concat(make([]byte, 32), row(round+1, 32)[:torn], row(round, 32)[torn:])
		has(t, d, want, round+1)
		isDown(t, d)
		d.Crash()
		has(t, d, want, round+1)
	}
}

// The chapter's example.
func TestExample(t *testing.T) {
	d := made(t, 2)
	wrote(t, d, 0, []byte("abc"), api.OK)
	d.Fuse(0, 2)
	wrote(t, d, 0, []byte("xyz"), api.ErrDown)
	has(t, d, slices.Concat([]byte("xyc"), make([]byte, 61)), 1)
}

// R5: what one disk is asked changes no other.
func TestDisksAreApart(t *testing.T) {
	d, other := full(t, 2), full(t, 2)
	before := all(t, other)
	d.Fuse(1, 9)
	wrote(t, d, 0, []byte("a"), api.OK)
	wrote(t, d, 1, []byte("b"), api.ErrDown)
	turned(t, d, 40, 77, api.OK)
	has(t, other, before, 2)
	wrote(t, other, 0, nil, api.OK)
	wrote(t, other, 1, nil, api.OK)
	isDown(t, d)
}

// P4.4: a sector is as it was written last; without power nothing changes, however often it is tried.
func TestLastWriteStays(t *testing.T) {
	d := made(t, 8)
	want := make([]byte, 256)
	r := rand.New(rand.NewSource(4))
	for i := range 2000 {
		at, b := r.Intn(8), row(i, r.Intn(33))
		wrote(t, d, at, b, api.OK)
		copy(want[32*at:], append(slices.Clone(b), make([]byte, 32-len(b))...))
		if i%100 != 99 {
			continue
		}
		has(t, d, want, i+1)
		off(t, d)
		for range 5 {
			isDown(t, d)
		}
		d.Crash()
		has(t, d, want, i+1)
	}
}

// drawnCall makes one call, drawn, of a disk and of the model, and answers both errors.
func drawnCall(r *rand.Rand, d *Disk, m *model) (api.Errno, api.Errno) {
	sectors := len(m.bytes) / 32
	switch k := r.Intn(20); {
	case k < 11:
		at, b := r.Intn(sectors), make([]byte, r.Intn(33))
		if r.Intn(12) == 0 {
			at = r.Intn(3*sectors) - sectors
		}
		if r.Intn(12) == 0 {
			b = make([]byte, 31+r.Intn(4))
		}
		r.Read(b)
		return d.Write(at, b), m.write(at, b)
	case k < 14:
		writes, torn := r.Intn(9)-2, r.Intn(40)-4
		d.Fuse(writes, torn)
		m.setFuse(writes, torn)
	case k < 17:
		at, by := r.Intn(32*sectors+8)-4, byte(r.Intn(256))
		return d.Turn(at, by), m.turn(at, by)
	default:
		d.Crash()
		m.crash()
	}
	return api.OK, api.OK
}

// P4.1 to P4.4: drawn calls, one behind the other, answer and leave what the document's words do.
func TestDrawnCalls(t *testing.T) {
	for seed := range int64(60) {
		r := rand.New(rand.NewSource(seed))
		sectors := 2 + r.Intn(6)
		d, m := made(t, sectors), newModel(sectors)
		for i := range 800 {
			wasPower, before := m.power, slices.Clone(m.bytes)
			e, want := drawnCall(r, d, m)
			if e != want {
				t.Fatalf("seed %d, call %d: %d; asked %d", seed, i, e, want)
			}
			if e == api.ErrDown && !wasPower && !bytes.Equal(before, m.bytes) {
				t.Fatalf("seed %d, call %d: the model changed without power", seed, i)
			}
			if d.Sectors() != sectors {
				t.Fatalf("seed %d, call %d: %d sectors", seed, i, d.Sectors())
			}
			has(t, d, m.bytes, m.writes)
		}
	}
}
