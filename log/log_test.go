package log

import (
	"bytes"
	"encoding/binary"
	"hash/crc32"
	"math/rand"
	"slices"
	"testing"

	"groupage/api"
	"groupage/disk"
)

// model is the document's words, on a disk of its own.
type model struct {
	d          *disk.Disk
	h          int
	start      int
	generation uint32
	records    [][]byte
	down       bool
}

func sector(d *disk.Disk, at int) []byte {
	b, e := d.Read(at)
	if e != api.OK {
		panic(e)
	}
	return b
}

func zero(b []byte) bool { return bytes.Equal(b, make([]byte, len(b))) }

func four(n uint32) []byte { return binary.BigEndian.AppendUint32(nil, n) }

// wantHead is a head, as the chapter's Words say.
func wantHead(generation uint32) []byte {
	b := slices.Concat(four(generation), four(crc32.ChecksumIEEE(four(generation))), make([]byte, 24))
	b[31] = 165
	return b
}

// wantRecord is a record's sectors, as the chapter's Words say.
func wantRecord(b []byte, generation, place uint32) [][]byte {
	top := slices.Concat([]byte{0, byte(len(b))}, four(generation), four(place))
	sum := four(crc32.ChecksumIEEE(slices.Concat(top, b)))
	first := slices.Concat(top, sum, b[:min(17, len(b))])
	for len(first) < 31 {
		first = append(first, 0)
	}
	l := [][]byte{append(first, 165)}
	for b = b[min(17, len(b)):]; len(b) > 0; b = b[min(32, len(b)):] {
		further := make([]byte, 32)
		copy(further, b)
		l = append(l, further)
	}
	return l
}

// wantGeneration is that of the half from start on, or 0.
func wantGeneration(d *disk.Disk, start int) uint32 {
	b := sector(d, start)
	generation := binary.BigEndian.Uint32(b)
	if generation == 0 || generation >= 1<<31 || !bytes.Equal(b, wantHead(generation)) {
		return 0
	}
	return generation
}

// wantRecords is what stands in a half, and its end.
func wantRecords(d *disk.Disk, start, h int, generation uint32) ([][]byte, int) {
	var l [][]byte
	at := start + 1
next:
	for at < start+h {
		first := sector(d, at)
		length := int(first[0])*256 + int(first[1])
		if length > 200 {
			break
		}
		b := slices.Clone(first[14:31])
		for i := at + 1; i < start+h; i++ {
			b = append(b, sector(d, i)...)
		}
		if length > len(b) {
			break
		}
		b = b[:length]
		want := wantRecord(b, generation, uint32(len(l)))
		for i, s := range want {
			if at+i >= start+h || !bytes.Equal(s, sector(d, at+i)) {
				break next
			}
		}
		l = append(l, b)
		at += len(want)
	}
	return l, at
}

func (m *model) write(at int, b []byte) api.Errno { return m.d.Write(at, b) }

func (m *model) wipe(from, to int) api.Errno {
	for at := from; at >= to; at-- {
		if !zero(sector(m.d, at)) {
			if e := m.write(at, make([]byte, 32)); e != api.OK {
				return e
			}
		}
	}
	return api.OK
}

func modelOpen(d *disk.Disk) (*model, api.Errno) {
	if d == nil || d.Sectors() < 4 {
		return nil, api.ErrArg
	}
	m := &model{d: d, h: d.Sectors() / 2}
	one, two := wantGeneration(d, 0), wantGeneration(d, m.h)
	switch {
	case one == 0 && two == 0:
		for at := 1; at < m.h; at++ {
			if !zero(sector(d, at)) {
				return nil, api.ErrSum
			}
		}
		if sector(d, 0)[31] != 0 {
			return nil, api.ErrSum
		}
		if e := m.write(0, wantHead(1)); e != api.OK {
			return nil, e
		}
		m.generation = 1
	case two > one:
		m.start, m.generation = m.h, two
	default:
		m.generation = one
	}
	var end int
	m.records, end = wantRecords(d, m.start, m.h, m.generation)
	if e := m.wipe(m.start+m.h-1, end); e != api.OK {
		return nil, e
	}
	return m, api.OK
}

func (m *model) left() int {
	left := m.h - 1
	for i, b := range m.records {
		left -= len(wantRecord(b, m.generation, uint32(i)))
	}
	return left
}

func (m *model) lay(at int, sectors [][]byte) api.Errno {
	for i := 1; i < len(sectors); i++ {
		if e := m.write(at+i, sectors[i]); e != api.OK {
			return e
		}
	}
	return m.write(at, sectors[0])
}

func (m *model) append(b []byte) api.Errno {
	if m.down {
		return api.ErrDown
	}
	if len(b) > 200 {
		return api.ErrArg
	}
	l := wantRecord(b, m.generation, uint32(len(m.records)))
	if len(l) > m.left() {
		return api.ErrFull
	}
	if e := m.lay(m.start+m.h-m.left(), l); e != api.OK {
		m.down = true
		return e
	}
	m.records = append(m.records, b)
	return api.OK
}

func (m *model) only(records [][]byte) api.Errno {
	if m.down {
		return api.ErrDown
	}
	for _, b := range records {
		if len(b) > 200 {
			return api.ErrArg
		}
	}
	next := &model{d: m.d, h: m.h, start: m.h - m.start, generation: m.generation + 1, records: records}
	if next.left() < 0 || m.generation == 1<<31-1 {
		return api.ErrFull
	}
	e := next.fill()
	if e != api.OK {
		m.down = true
		return e
	}
	*m = *next
	return api.OK
}

func (m *model) fill() api.Errno {
	if e := m.wipe(m.start+m.h-1, m.start); e != api.OK {
		return e
	}
	at := m.start + 1
	for i, b := range m.records {
		l := wantRecord(b, m.generation, uint32(i))
		if e := m.lay(at, l); e != api.OK {
			return e
		}
		at += len(l)
	}
	return m.write(m.start, wantHead(m.generation))
}

// Both sides of what is held against each other.

type pair struct {
	t    *testing.T
	d, w *disk.Disk // the log's, and the model's
	l    *Log
	m    *model
}

func newPair(t *testing.T, sectors int) *pair {
	p := &pair{t: t, d: newDisk(t, sectors), w: newDisk(t, sectors)}
	return p
}

func newDisk(t *testing.T, sectors int) *disk.Disk {
	t.Helper()
	d, e := disk.New(sectors)
	if e != api.OK {
		t.Fatalf("disk.New(%d): %d", sectors, e)
	}
	return d
}

func (p *pair) both(f func(d *disk.Disk)) {
	f(p.d)
	f(p.w)
}

func (p *pair) set(at int, b []byte) {
	p.both(func(d *disk.Disk) { d.Write(at, b) })
}

func (p *pair) same(what string, e, want api.Errno) {
	p.t.Helper()
	if e != want {
		p.t.Fatalf("%s: %d, not %d", what, e, want)
	}
	if p.d.Writes() != p.w.Writes() {
		p.t.Fatalf("%s: %d writes, not %d", what, p.d.Writes(), p.w.Writes())
	}
	for at := range p.d.Sectors() {
		if !bytes.Equal(sector(p.d, at), sector(p.w, at)) {
			p.t.Fatalf("%s: sector %d is %x, not %x", what, at, sector(p.d, at), sector(p.w, at))
		}
	}
	if (p.l == nil) != (p.m == nil) {
		p.t.Fatalf("%s: a log beside an error, or none without", what)
	}
	if p.l == nil {
		return
	}
	if !equal(p.l.Records(), p.m.records) {
		p.t.Fatalf("%s: records %q, not %q", what, p.l.Records(), p.m.records)
	}
	if p.l.Generation() != int(p.m.generation) || p.l.Left() != p.m.left() {
		p.t.Fatalf("%s: generation %d, not %d; left %d, not %d", what, p.l.Generation(), p.m.generation, p.l.Left(), p.m.left())
	}
}

func (p *pair) open() api.Errno {
	p.t.Helper()
	var e, want api.Errno
	p.l, e = Open(p.d)
	p.m, want = modelOpen(p.w)
	p.same("Open", e, want)
	return e
}

func (p *pair) append(b []byte) api.Errno {
	p.t.Helper()
	e := p.l.Append(b)
	p.same("Append", e, p.m.append(b))
	return e
}

func (p *pair) only(l [][]byte) api.Errno {
	p.t.Helper()
	e := p.l.Only(l)
	p.same("Only", e, p.m.only(l))
	return e
}

func (p *pair) fuse(writes, torn int) { p.both(func(d *disk.Disk) { d.Fuse(writes, torn) }) }
func (p *pair) crash()                { p.both((*disk.Disk).Crash) }
func (p *pair) turn(at int, by byte)  { p.both(func(d *disk.Disk) { d.Turn(at, by) }) }

func equal(a, b [][]byte) bool { return slices.EqualFunc(a, b, bytes.Equal) }

func texts(l ...string) [][]byte {
	var out [][]byte
	for _, s := range l {
		out = append(out, []byte(s))
	}
	return out
}

// long is n bytes none of which is 0.
func long(n int) []byte {
	b := make([]byte, n)
	for i := range b {
		b[i] = byte(i%251 + 1)
	}
	return b
}

func (p *pair) want(what string, e, want api.Errno) {
	p.t.Helper()
	if e != want {
		p.t.Fatalf("%s: %d, not %d", what, e, want)
	}
}

func (p *pair) has(l ...string) {
	p.t.Helper()
	if !equal(p.l.Records(), texts(l...)) {
		p.t.Fatalf("%q, not %q", p.l.Records(), l)
	}
}

// P5.1: no disk, and disks of too few sectors.
func TestOpenWrong(t *testing.T) {
	if l, e := Open(nil); l != nil || e != api.ErrArg {
		t.Errorf("none: %d", e)
	}
	for _, n := range []int{2, 3} {
		d := newDisk(t, n)
		// Also bytes that were turned: ErrArg is named first.
		d.Turn(31, 1)
		d.Turn(40, 1)
		if l, e := Open(d); l != nil || e != api.ErrArg || d.Writes() != 0 {
			t.Errorf("%d: %d", n, e)
		}
	}
}

// P5.1: a disk that is all 0 gets the head of generation 1, of even and of odd numbers of sectors.
func TestOpenNew(t *testing.T) {
	for _, n := range []int{4, 5, 6, 7, 10, 11, 4095, 4096} {
		p := newPair(t, n)
		p.want("Open", p.open(), api.OK)
		if p.d.Writes() != 1 || !bytes.Equal(sector(p.d, 0), wantHead(1)) {
			t.Errorf("%d: %x", n, sector(p.d, 0))
		}
		if p.l.Generation() != 1 || p.l.Left() != n/2-1 || len(p.l.Records()) != 0 {
			t.Errorf("%d: %d, %d", n, p.l.Generation(), p.l.Left())
		}
		p.want("again", p.open(), api.OK)
		if p.d.Writes() != 1 {
			t.Errorf("%d: %d writes", n, p.d.Writes())
		}
	}
}

// P5.1: where no half is one, each single byte of the first half that isn't 0 is an error, but those of a head that was torn; those of the second half, and behind it, are none.
func TestOpenTurnedNew(t *testing.T) {
	const n = 9
	for at := range n * 32 {
		for _, by := range []byte{1, 128, 165, 255} {
			p := newPair(t, n)
			p.turn(at, by)
			want := api.OK
			if at >= 31 && at < 4*32 {
				want = api.ErrSum
			}
			p.want("Open", p.open(), want)
			if want == api.ErrSum && (p.d.Writes() != 0 || p.l != nil) {
				t.Errorf("%d: written beside an error", at)
			}
			if at >= 4*32 && sector(p.d, at/32)[at%32] != by {
				t.Errorf("%d: the other half is changed", at)
			}
		}
	}
}

// P5.1: heads that are none: generation 0, those from 2^31 on, and each byte turned.
func TestOpenHeads(t *testing.T) {
	for _, c := range []struct {
		generation uint32
		one        bool
	}{{0, false}, {1, true}, {2, true}, {255, true}, {256, true}, {1<<16 + 7, true}, {1<<31 - 1, true}, {1 << 31, false}, {1<<32 - 1, false}} {
		for half := range 2 {
			p := newPair(t, 8)
			p.set(half*4, wantHead(c.generation))
			e := p.open()
			switch {
			case c.one && (e != api.OK || p.l.Generation() != int(c.generation)):
				t.Errorf("%d: %d", c.generation, e)
			case !c.one && half == 0 && e != api.ErrSum:
				t.Errorf("%d: %d", c.generation, e)
			case !c.one && half == 1 && (e != api.OK || p.l.Generation() != 1):
				t.Errorf("%d: %d", c.generation, e)
			}
		}
	}
	for at := range 32 {
		p := newPair(t, 8)
		p.set(0, wantHead(7))
		p.set(4, wantHead(6))
		p.turn(at, 1)
		p.want("Open", p.open(), api.OK)
		if p.l.Generation() != 6 {
			t.Errorf("%d: %d", at, p.l.Generation())
		}
	}
}

// P5.1: the half of the greater generation counts, and the first one of two the same.
func TestOpenHalves(t *testing.T) {
	for _, c := range []struct {
		one, two uint32
		has      string
		want     int
	}{{1, 2, "two", 2}, {2, 1, "one", 2}, {3, 3, "one", 3}, {0, 5, "two", 5}, {5, 0, "one", 5}, {1<<31 - 1, 1, "one", 1<<31 - 1}, {255, 256, "two", 256}, {1<<24 + 1, 1 << 16, "one", 1<<24 + 1}} {
		p := newPair(t, 9)
		if c.one > 0 {
			p.set(0, wantHead(c.one))
		}
		if c.two > 0 {
			p.set(4, wantHead(c.two))
		}
		p.set(1, wantRecord([]byte("one"), c.one, 0)[0])
		p.set(5, wantRecord([]byte("two"), c.two, 0)[0])
		p.set(8, long(32))
		p.want("Open", p.open(), api.OK)
		p.has(c.has)
		if p.l.Generation() != c.want || p.l.Left() != 2 {
			t.Errorf("%v: %d, %d", c, p.l.Generation(), p.l.Left())
		}
		if !bytes.Equal(sector(p.d, 8), long(32)) {
			t.Error("the sector behind both halves is changed")
		}
	}
}

// P5.1: what stands behind the end is wiped, from the last sector down, and only what isn't all 0.
func TestOpenWipes(t *testing.T) {
	full := func() *pair {
		p := newPair(t, 16)
		p.set(8, wantHead(3))
		p.set(9, wantRecord([]byte("a"), 3, 0)[0])
		p.set(10, []byte{1})
		p.set(12, append(make([]byte, 31), 1))
		p.set(13, wantRecord([]byte("b"), 3, 1)[0])
		p.set(15, long(32))
		p.set(3, long(32)) // of the other half
		return p
	}
	p := full()
	before := p.d.Writes()
	p.want("Open", p.open(), api.OK)
	if p.d.Writes()-before != 4 || p.l.Left() != 6 {
		t.Errorf("%d writes, %d left", p.d.Writes()-before, p.l.Left())
	}
	for at := 10; at < 16; at++ {
		if !zero(sector(p.d, at)) {
			t.Errorf("%d: %x", at, sector(p.d, at))
		}
	}
	if !bytes.Equal(sector(p.d, 3), long(32)) {
		t.Error("the other half is changed")
	}
	for writes, at := range []int{15, 13, 12, 10} {
		for torn := range 33 {
			p := full()
			was := slices.Clone(sector(p.d, at))
			p.fuse(writes, torn)
			p.want("Open", p.open(), api.ErrDown)
			if p.l != nil {
				t.Fatal("a log beside an error")
			}
			if s := sector(p.d, at); !zero(s[:torn]) || !bytes.Equal(s[torn:], was[torn:]) {
				t.Errorf("%d: %x", at, s)
			}
			p.crash()
			p.want("Open", p.open(), api.OK)
			p.has("a")
		}
	}
}

// P5.1: without power a disk where nothing is to be written opens, and one where something is doesn't.
func TestOpenWithoutPower(t *testing.T) {
	p := newPair(t, 8)
	p.open()
	p.append([]byte("a"))
	p.fuse(0, 0)
	p.want("Append", p.append([]byte("b")), api.ErrDown)
	p.want("Open", p.open(), api.OK)
	p.has("a")
	p.want("Append", p.append([]byte("c")), api.ErrDown)
	p.turn(3*32, 1)
	p.want("Open", p.open(), api.ErrDown)
	p = newPair(t, 8)
	p.fuse(0, 0)
	p.want("Open", p.open(), api.ErrDown)
	p.want("Open", p.open(), api.ErrDown)
}

// P5.2: sectors of records of each length, as the Words say, and read again the same.
func TestAppendLengths(t *testing.T) {
	sectors := map[int]int{0: 1, 1: 1, 16: 1, 17: 1, 18: 2, 49: 2, 50: 3, 81: 3, 82: 4, 177: 6, 178: 7, 200: 7}
	for n := range 201 {
		p := newPair(t, 40)
		p.open()
		p.want("Append", p.append([]byte("x")), api.OK)
		p.want("Append", p.append(long(n)), api.OK)
		if want, ok := sectors[n]; ok && p.l.Left() != 18-want {
			t.Errorf("%d: %d left", n, p.l.Left())
		}
		for i, s := range wantRecord(long(n), 1, 1) {
			if !bytes.Equal(sector(p.d, 2+i), s) {
				t.Errorf("%d: %x", n, sector(p.d, 2+i))
			}
		}
		p.want("Append", p.append(nil), api.OK)
		p.want("Open", p.open(), api.OK)
		if !equal(p.l.Records(), [][]byte{[]byte("x"), long(n), nil}) {
			t.Errorf("%d: %q", n, p.l.Records())
		}
	}
}

// P5.2: a record of too many bytes, and one that doesn't fit; what just fits does.
func TestAppendErrors(t *testing.T) {
	for _, n := range []int{0, 17, 18, 49, 50, 200} {
		need := len(wantRecord(long(n), 1, 0))
		for _, more := range []int{0, -1} {
			half := 1 + 2 + need + more
			p := newPair(t, 2*half)
			p.open()
			p.want("Append", p.append(long(18)), api.OK)
			want := api.OK
			if more < 0 {
				want = api.ErrFull
			}
			writes := p.d.Writes()
			p.want("Append", p.append(long(n)), want)
			if more < 0 && p.d.Writes() != writes {
				t.Error("written beside an error")
			}
			if more == 0 && p.l.Left() != 0 {
				t.Errorf("%d left", p.l.Left())
			}
			// Also where there is no room ErrArg is named first.
			p.want("Append", p.append(long(201)), api.ErrArg)
			p.want("Append", p.append(long(70000)), api.ErrArg)
			p.want("Open", p.open(), api.OK)
		}
	}
}

// P5.2, P5.3: behind an error of the disk all is ErrDown, also where there is power again, and what was is told.
func TestBehindError(t *testing.T) {
	for _, first := range []string{"Append", "Only"} {
		p := newPair(t, 12)
		p.open()
		p.want("Append", p.append([]byte("a")), api.OK)
		p.fuse(0, 7)
		if first == "Append" {
			p.want(first, p.append([]byte("b")), api.ErrDown)
		} else {
			p.want(first, p.only(texts("b")), api.ErrDown)
		}
		for range 2 {
			p.want("Append", p.append(nil), api.ErrDown)
			p.want("Append", p.append(long(201)), api.ErrDown)
			p.want("Append", p.append(long(200)), api.ErrDown)
			p.want("Only", p.only(nil), api.ErrDown)
			p.want("Only", p.only([][]byte{long(201)}), api.ErrDown)
			p.want("Only", p.only([][]byte{long(200)}), api.ErrDown)
			p.has("a")
			if p.l.Generation() != 1 || p.l.Left() != 4 {
				t.Errorf("%d, %d", p.l.Generation(), p.l.Left())
			}
			p.crash()
		}
		p.want("Open", p.open(), api.OK)
		p.has("a")
		p.want("Append", p.append([]byte("c")), api.OK)
		p.has("a", "c")
	}
}

// P5.2, P5.3: an error that isn't the disk's leaves the log as it was.
func TestOwnErrors(t *testing.T) {
	p := newPair(t, 8)
	p.open()
	p.want("Append", p.append(long(201)), api.ErrArg)
	p.want("Append", p.append(long(200)), api.ErrFull)
	p.want("Only", p.only([][]byte{long(201)}), api.ErrArg)
	p.want("Only", p.only([][]byte{long(200)}), api.ErrFull)
	p.want("Append", p.append([]byte("a")), api.OK)
	p.want("Only", p.only(texts("b")), api.OK)
	p.has("b")
}

// P5.3: Only lets these be all, in the other half, of the next generation.
func TestOnly(t *testing.T) {
	p := newPair(t, 11)
	p.open()
	p.want("Append", p.append([]byte("a")), api.OK)
	p.want("Only", p.only([][]byte{[]byte("x"), long(18)}), api.OK)
	if p.l.Generation() != 2 || p.l.Left() != 1 || !bytes.Equal(sector(p.d, 5), wantHead(2)) {
		t.Errorf("%d, %d", p.l.Generation(), p.l.Left())
	}
	if !bytes.Equal(sector(p.d, 6), wantRecord([]byte("x"), 2, 0)[0]) || !bytes.Equal(sector(p.d, 7), wantRecord(long(18), 2, 1)[0]) {
		t.Error("not the records of generation 2")
	}
	if !bytes.Equal(sector(p.d, 0), wantHead(1)) {
		t.Error("the half that was is changed")
	}
	p.want("Append", p.append([]byte("y")), api.OK)
	p.want("Open", p.open(), api.OK)
	if !equal(p.l.Records(), [][]byte{[]byte("x"), long(18), []byte("y")}) {
		t.Errorf("%q", p.l.Records())
	}
	p.want("Only", p.only(nil), api.OK)
	if p.l.Generation() != 3 || p.l.Left() != 4 || len(p.l.Records()) != 0 || !zero(sector(p.d, 1)) {
		t.Errorf("%d, %d", p.l.Generation(), p.l.Left())
	}
	p.want("Only", p.only([][]byte{}), api.OK)
	p.want("Only", p.only([][]byte{nil, {}}), api.OK)
	p.want("Open", p.open(), api.OK)
	p.has("", "")
	if p.l.Generation() != 5 {
		t.Errorf("%d", p.l.Generation())
	}
}

// P5.3: records that just fit in a half, and ones that are one sector too long; ErrArg ahead of ErrFull.
func TestOnlyErrors(t *testing.T) {
	for _, c := range []struct {
		sectors int
		lengths []int
		want    api.Errno
	}{
		{4, []int{17}, api.OK},
		{4, []int{18}, api.ErrFull},
		{4, []int{0, 0}, api.ErrFull},
		{5, []int{17}, api.OK},
		{5, []int{18}, api.ErrFull},
		{6, []int{18}, api.OK},
		{6, []int{0, 17}, api.OK},
		{6, []int{0, 18}, api.ErrFull},
		{6, []int{50}, api.ErrFull},
		{8, []int{50}, api.OK},
		{8, []int{0, 49}, api.OK},
		{16, []int{200}, api.OK},
		{15, []int{200}, api.ErrFull},
		{16, []int{200, 0}, api.ErrFull},
		{16, []int{201}, api.ErrArg},
		{4, []int{200, 200, 201}, api.ErrArg},
		{4, []int{201, 0}, api.ErrArg},
	} {
		p := newPair(t, c.sectors)
		p.open()
		p.want("Append", p.append([]byte("a")), api.OK)
		var l [][]byte
		for _, n := range c.lengths {
			l = append(l, long(n))
		}
		writes := p.d.Writes()
		p.want("Only", p.only(l), c.want)
		if c.want != api.OK {
			p.has("a")
			if p.d.Writes() != writes {
				t.Errorf("%v: written beside an error", c)
			}
		}
	}
}

// P5.3: no generation comes behind 2^31 - 1.
func TestLastGeneration(t *testing.T) {
	p := newPair(t, 8)
	p.set(0, wantHead(1<<31-2))
	p.want("Open", p.open(), api.OK)
	p.want("Append", p.append([]byte("a")), api.OK)
	p.want("Only", p.only(texts("b")), api.OK)
	if p.l.Generation() != 1<<31-1 {
		t.Errorf("%d", p.l.Generation())
	}
	p.want("Only", p.only(nil), api.ErrFull)
	p.want("Only", p.only([][]byte{long(201)}), api.ErrArg)
	p.want("Append", p.append([]byte("c")), api.OK)
	p.want("Open", p.open(), api.OK)
	p.has("b", "c")
	p.want("Only", p.only(texts("d")), api.ErrFull)
}

// P5.1: records of another generation, of another place, or that don't end in the half, aren't there, nor what is behind them.
func TestOtherRecords(t *testing.T) {
	a, b := []byte("a"), []byte("b")
	for _, c := range []struct {
		generation, place uint32
		has               []string
	}{{4, 1, []string{"a", "b"}}, {3, 1, []string{"a"}}, {5, 1, []string{"a"}}, {4, 0, []string{"a"}}, {4, 2, []string{"a"}}, {1, 4, []string{"a"}}} {
		p := newPair(t, 10)
		p.set(0, wantHead(4))
		p.set(1, wantRecord(a, 4, 0)[0])
		p.set(2, wantRecord(b, c.generation, c.place)[0])
		if len(c.has) == 1 {
			p.set(3, wantRecord(b, 4, 1)[0])
		}
		p.want("Open", p.open(), api.OK)
		p.has(c.has...)
	}
	// One of two sectors, of which the second would be the other half's head, or beyond the disk.
	for start := range 2 {
		p := newPair(t, 6)
		p.set(3*start, wantHead(4))
		l := wantRecord(long(30), 4, 0)
		p.set(3*start+2, l[0])
		p.set(3*start+1, wantRecord(a, 4, 0)[0])
		l = wantRecord(long(30), 4, 1)
		p.set(3*start+2, l[0])
		if start == 0 {
			p.set(3, l[1])
		}
		p.want("Open", p.open(), api.OK)
		p.has("a")
		if p.l.Left() != 1 {
			t.Errorf("%d", p.l.Left())
		}
	}
	// One that says that it has 201 bytes, with a sum that holds.
	p := newPair(t, 40)
	p.set(0, wantHead(1))
	for i, s := range wantRecord(long(201), 1, 0) {
		p.set(1+i, s)
	}
	p.want("Open", p.open(), api.OK)
	p.has()
	if p.l.Left() != 19 {
		t.Errorf("%d", p.l.Left())
	}
}

// P5.1: each byte of a half that is turned: the records ahead of it stay, itself and those behind it are gone; also a byte that only fills up.
func TestTurned(t *testing.T) {
	make5 := func() *pair {
		p := newPair(t, 20)
		p.open()
		p.append([]byte("a"))
		p.append(long(40))
		p.append(nil)
		p.append(long(17))
		return p
	}
	starts := []int{1, 2, 4, 5, 6}
	all := make5().l.Records()
	for at := range 20 * 32 {
		for _, by := range []byte{1, 165, 255} {
			p := make5()
			p.turn(at, by)
			e := p.open()
			if at < 32 {
				p.want("Open", e, api.ErrSum)
				continue
			}
			p.want("Open", e, api.OK)
			keep := 0
			for keep < 4 && starts[keep+1] <= at/32 {
				keep++
			}
			if !equal(p.l.Records(), all[:keep]) {
				t.Fatalf("%d: %q", at, p.l.Records())
			}
			for s := starts[keep]; s < 10; s++ {
				if !zero(sector(p.d, s)) {
					t.Fatalf("%d: sector %d isn't wiped", at, s)
				}
			}
			p.want("Append", p.append(long(18)), api.OK)
			p.want("Open", p.open(), api.OK)
			if len(p.l.Records()) != keep+1 {
				t.Fatalf("%d: %d records", at, len(p.l.Records()))
			}
		}
	}
}

// P5.4: a crash at every write of Append, torn at every length.
func TestCrashAppend(t *testing.T) {
	for _, n := range []int{0, 17, 18, 49, 50, 200} {
		sectors := len(wantRecord(long(n), 1, 0))
		for writes := range sectors + 1 {
			for torn := range 33 {
				p := newPair(t, 30)
				p.open()
				p.want("Append", p.append([]byte("a")), api.OK)
				p.fuse(writes, torn)
				e := p.append(long(n))
				there := writes == sectors
				p.want("Append", e, map[bool]api.Errno{true: api.OK, false: api.ErrDown}[there])
				p.crash()
				p.want("Open", p.open(), api.OK)
				want := texts("a")
				if there || writes == sectors-1 && torn == 32 {
					want = append(want, long(n))
				}
				if !equal(p.l.Records(), want) {
					t.Fatalf("%d, %d, %d: %q", n, writes, torn, p.l.Records())
				}
				p.want("Append", p.append([]byte("b")), api.OK)
				p.want("Open", p.open(), api.OK)
				if !equal(p.l.Records(), append(want, []byte("b"))) {
					t.Fatalf("%d, %d, %d: %q", n, writes, torn, p.l.Records())
				}
			}
		}
	}
}

// P5.4: a crash at every write of Only, torn at every length, and at every write of the Open behind it, torn likewise.
func TestCrashOnly(t *testing.T) {
	was := [][]byte{[]byte("a"), long(60)}
	now := [][]byte{long(18), []byte("x"), nil}
	for writes := range 12 {
		for torn := range 33 {
			for again := range 3 {
				p := newPair(t, 20)
				p.open()
				p.append([]byte("old"))
				p.append(long(100))
				p.want("Only", p.only(was), api.OK)
				p.fuse(writes, torn)
				e := p.only(now)
				p.crash()
				p.fuse(again, torn)
				if p.open() != api.OK {
					p.crash()
					p.want("Open", p.open(), api.OK)
				}
				// Six sectors are wiped (the head, one of old, four of 100), four are of records, then the head.
				whole := e == api.OK || writes == 10 && torn == 32
				if e == api.OK != (writes > 10) {
					t.Fatalf("%d: %d", writes, e)
				}
				want := was
				if whole {
					want = now
				}
				if !equal(p.l.Records(), want) {
					t.Fatalf("%d, %d: %q", writes, torn, p.l.Records())
				}
				p.crash()
				p.want("Open", p.open(), api.OK)
				p.want("Only", p.only(texts("z")), api.OK)
				p.want("Open", p.open(), api.OK)
				p.has("z")
			}
		}
	}
}

// P5.4: a crash at the only write of the first Open, torn at every length.
func TestCrashFirstOpen(t *testing.T) {
	for torn := range 33 {
		for again := range 33 {
			p := newPair(t, 6)
			p.fuse(0, torn)
			p.want("Open", p.open(), api.ErrDown)
			p.crash()
			p.fuse(0, again)
			e := p.open()
			if e == api.OK != (torn == 32) {
				t.Fatalf("%d, %d: %d", torn, again, e)
			}
			p.crash()
			p.want("Open", p.open(), api.OK)
			p.has()
			if p.l.Generation() != 1 || p.l.Left() != 2 {
				t.Fatalf("%d, %d", p.l.Generation(), p.l.Left())
			}
		}
	}
}

// P5.4: a crash while it wipes what a crash left, at every write, torn at every length.
func TestCrashOpen(t *testing.T) {
	for writes := range 7 {
		for torn := range 33 {
			for again := range 8 {
				p := newPair(t, 24)
				p.open()
				p.append([]byte("a"))
				p.fuse(writes, torn)
				p.want("Append", p.append(long(200)), api.ErrDown)
				p.crash()
				p.fuse(again, torn)
				p.open()
				p.crash()
				p.want("Open", p.open(), api.OK)
				want := texts("a")
				if writes == 6 && torn == 32 {
					want = append(want, long(200))
				}
				if !equal(p.l.Records(), want) {
					t.Fatalf("%d, %d, %d: %q", writes, torn, again, p.l.Records())
				}
			}
		}
	}
}

// R3: what is answered and what was handed in share nothing with the log.
func TestShares(t *testing.T) {
	p := newPair(t, 20)
	p.open()
	b := []byte("abc")
	p.want("Append", p.l.Append(b), api.OK)
	if string(b) != "abc" {
		t.Errorf("%q", b)
	}
	b[0] = 'X'
	p.has("abc")
	got := p.l.Records()
	got[0][0] = 'Y'
	got[0] = append(got[0][:1], 'Z')
	got = append(got[:0], []byte("other"))
	p.has("abc")
	l := texts("p", "q")
	p.want("Only", p.l.Only(l), api.OK)
	if !equal(l, texts("p", "q")) {
		t.Errorf("%q", l)
	}
	l[0][0], l[1] = 'X', []byte("other")
	p.has("p", "q")
	opened, e := Open(p.d)
	p.want("Open", e, api.OK)
	got = opened.Records()
	got[0][0], got[1] = 'Y', nil
	if !equal(opened.Records(), texts("p", "q")) {
		t.Errorf("%q", opened.Records())
	}
	_ = append(got[0], "zzzz"...)
	if !equal(opened.Records(), texts("p", "q")) {
		t.Errorf("%q", opened.Records())
	}
}

// P5.2: what the log tells is what it was opened with and given since, not what was turned on the disk behind it.
func TestKept(t *testing.T) {
	p := newPair(t, 20)
	p.open()
	p.append([]byte("a"))
	p.turn(32, 1)
	p.has("a")
	p.want("Append", p.append([]byte("b")), api.OK)
	p.has("a", "b")
	p.want("Only", p.only(p.l.Records()), api.OK)
	p.want("Open", p.open(), api.OK)
	p.has("a", "b")
}

// P5.1 to P5.4: drawn calls, with crashes and turned bytes among them, against the model.
func TestDrawn(t *testing.T) {
	r := rand.New(rand.NewSource(5))
	drawn := func() []byte {
		n := []int{0, 1, 5, 17, 18, 30, 49, 50, 100, 200, 201}[r.Intn(11)]
		b := make([]byte, n)
		r.Read(b)
		return b
	}
	for range 400 {
		p := newPair(t, 4+r.Intn(40))
		if r.Intn(2) == 0 {
			p.set(0, wantHead(uint32(r.Intn(3))+1<<31-4))
		}
		for range 60 {
			if p.l == nil || r.Intn(12) == 0 {
				p.crash()
				if r.Intn(3) == 0 {
					p.fuse(r.Intn(3), r.Intn(33))
				}
				if p.open() == api.ErrSum {
					break
				}
				continue
			}
			switch r.Intn(12) {
			case 0:
				p.fuse(r.Intn(12)-1, r.Intn(33))
			case 1:
				p.turn(r.Intn(p.d.Sectors()*32), byte(r.Intn(256)))
			case 2, 3:
				var l [][]byte
				for range r.Intn(4) {
					l = append(l, drawn())
				}
				p.only(l)
			default:
				p.append(drawn())
			}
		}
	}
}

// P5.4: drawn calls with crashes alone: what opens is what was told done, and at most what was on its way.
func TestDrawnCrashes(t *testing.T) {
	r := rand.New(rand.NewSource(6))
	for range 600 {
		d := newDisk(t, 6+r.Intn(40))
		l, _ := Open(d)
		var done, way [][]byte // what lasts, and what may be instead
		for range 40 {
			if r.Intn(4) == 0 {
				d.Fuse(r.Intn(8), r.Intn(33))
			}
			var e api.Errno
			b := long(r.Intn(120))
			if r.Intn(4) > 0 {
				way = append(slices.Clone(done), b)
				e = l.Append(b)
			} else {
				way = [][]byte{b, []byte("x")}
				e = l.Only(way)
			}
			if e == api.OK {
				done = way
			}
			if e != api.ErrDown {
				continue
			}
			d.Crash()
			for {
				if r.Intn(2) == 0 {
					d.Fuse(r.Intn(3), r.Intn(33))
				}
				if l, e = Open(d); e == api.OK {
					break
				}
				if e != api.ErrDown {
					t.Fatalf("Open: %d", e)
				}
				d.Crash()
			}
			if !equal(l.Records(), done) && !equal(l.Records(), way) {
				t.Fatalf("%q is neither %q nor %q", l.Records(), done, way)
			}
			done = l.Records()
			d.Crash()
			if l, e = Open(d); e != api.OK || !equal(l.Records(), done) {
				t.Fatalf("Open again: %d", e)
			}
		}
	}
}
