package pack

import (
	"bytes"
	"fmt"
	"math"
	"math/big"
	"math/rand"
	"slices"
	"strings"
	"testing"

	"groupage/api"
)

const most = int64(1) << 62

// numberBytes works a number's bytes out by the document's words, with numbers that have no limits.
func numberBytes(n int64) []byte {
	u := new(big.Int).Mul(big.NewInt(n), big.NewInt(2))
	if n < 0 {
		u.Sub(big.NewInt(-1), u)
	}
	return sevens(u)
}

// sevens lays u out by sevens of bits, the lowest first.
func sevens(u *big.Int) []byte {
	seven, rest := new(big.Int), new(big.Int).Set(u)
	var b []byte
	for {
		rest.DivMod(rest, big.NewInt(128), seven)
		if rest.Sign() == 0 {
			return append(b, byte(seven.Int64()))
		}
		b = append(b, byte(seven.Int64()+128))
	}
}

// wantBytes works out values' bytes by the document's words.
func wantBytes(form string, l []Value) []byte {
	letters := strings.TrimSuffix(form, "+")
	b := []byte{}
	for i, v := range l {
		if letters[i%len(letters)] == 't' {
			b = append(append(b, numberBytes(int64(len(v.T)))...), v.T...)
		} else {
			b = append(b, numberBytes(v.N)...)
		}
	}
	return b
}

// wantNumber works out the number at the beginning of b, how many bytes it has, and the error.
func wantNumber(b []byte) (int64, int, api.Errno) {
	last := slices.IndexFunc(b, func(c byte) bool { return c < 128 })
	if last < 0 && len(b) < 10 {
		return 0, 0, api.ErrShort
	}
	if last < 0 || last > 9 || last > 0 && b[last] == 0 {
		return 0, 0, api.ErrForm
	}
	u := new(big.Int)
	for i := last; i >= 0; i-- {
		u.Add(u.Mul(u, big.NewInt(128)), big.NewInt(int64(b[i]%128)))
	}
	n := new(big.Int)
	if u.Bit(0) == 1 {
		n.Sub(big.NewInt(-1), u).Quo(n, big.NewInt(2))
	} else {
		n.Quo(u, big.NewInt(2))
	}
	if n.CmpAbs(big.NewInt(most)) > 0 {
		return 0, 0, api.ErrForm
	}
	return n.Int64(), last + 1, api.OK
}

// wantValues works out by the document's words what Read answers to a form that may be.
func wantValues(form string, b []byte) ([]Value, api.Errno) {
	if len(b) > 20000 {
		return nil, api.ErrFull
	}
	letters, often := strings.CutSuffix(form, "+")
	var l []Value
	for first := true; often && len(b) > 0 || !often && first; first = false {
		for _, letter := range letters {
			n, used, e := wantNumber(b)
			switch {
			case e != api.OK:
				return nil, e
			case letter == 'n':
				l, b = append(l, Value{N: n}), b[used:]
			case n < 0 || n > 1000:
				return nil, api.ErrForm
			case int(n) > len(b)-used:
				return nil, api.ErrShort
			default:
				l, b = append(l, Value{T: string(b[used : used+int(n)])}), b[used+int(n):]
			}
		}
	}
	switch {
	case len(b) > 0:
		return nil, api.ErrForm
	case len(l) > 200:
		return nil, api.ErrFull
	}
	return l, api.OK
}

// numbers are the edges at which a number's bytes grow, the greatest and the least, and drawn ones.
func numbers() []int64 {
	l := []int64{0, most, -most, most - 1, 1 - most}
	for i := range 62 {
		n := int64(1) << i
		l = append(l, n, -n, n-1, 1-n, n+1, -1-n)
	}
	r := rand.New(rand.NewSource(3))
	for range 1000 {
		l = append(l, (r.Int63()-most)>>r.Intn(62))
	}
	return l
}

// texts have lengths at the edges; bytes of every kind, also such that no letter is written with.
func texts() []string {
	all := make([]byte, 256)
	for i := range all {
		all[i] = byte(i)
	}
	l := []string{"", "a", "\x00", "\xff", "é", string(all), "+", "nt"}
	for _, n := range []int{63, 64, 127, 128, 129, 255, 256, 999, 1000} {
		l = append(l, strings.Repeat("x", n), strings.Repeat("\x80", n))
	}
	return l
}

// drawnValues are values of a form, as many times as given.
func drawnValues(r *rand.Rand, form string, times int) []Value {
	letters, often := strings.CutSuffix(form, "+")
	if !often {
		times = 1
	}
	somewhere, some := numbers(), texts()
	var l []Value
	for range times {
		for _, letter := range letters {
			if letter == 'n' {
				l = append(l, Number(somewhere[r.Intn(len(somewhere))]))
			} else {
				l = append(l, Text(some[r.Intn(len(some))]))
			}
		}
	}
	return l
}

func forms() []string {
	return []string{"n", "t", "nt", "tn", "nn", "tt", "ntntt", "n+", "t+", "nt+", "tn+", "nnt+",
		strings.Repeat("n", 20), strings.Repeat("t", 20), strings.Repeat("nt", 10), strings.Repeat("n", 19) + "+", strings.Repeat("tnn", 6) + "t+"}
}

// noForms may not be.
func noForms() []string {
	return []string{"", "+", "++", "n++", "+n", "n+n", "n+n+", "nt+t", "+n+", "x", "N", "T", "nx", "xn", "n t", " n", "n ", "n\x00", "n\n", "é", "n\xff", "-", "n*", "n+ ",
		strings.Repeat("n", 21), strings.Repeat("n", 20) + "+", strings.Repeat("t", 19) + "++", strings.Repeat("nt", 100), strings.Repeat("+", 20)}
}

// shown is l as a remark shows it: cut, as some are long.
func shown(l []Value) string { return fmt.Sprintf("%.200q", fmt.Sprintf("%+v", l)) }

func wantWritten(t *testing.T, form string, l []Value, want []byte) {
	t.Helper()
	before := slices.Clone(l)
	b, e := Write(form, l)
	if e != api.OK || !bytes.Equal(b, want) {
		t.Errorf("Write(%q, %s) = %x, %d, want %x", form, shown(l), b, e, want)
	}
	if !slices.Equal(l, before) {
		t.Errorf("Write(%q, %s) changed its list", form, shown(before))
	}
}

func wantNotWritten(t *testing.T, form string, l []Value, want api.Errno) {
	t.Helper()
	if b, e := Write(form, l); b != nil || e != want {
		t.Errorf("Write(%q, %s) = %x, %d, want error %d", form, shown(l), b, e, want)
	}
}

func wantRead(t *testing.T, form string, b []byte, want []Value) {
	t.Helper()
	before := bytes.Clone(b)
	l, e := Read(form, b)
	if e != api.OK || !slices.Equal(l, want) {
		t.Errorf("Read(%q, %.40x) = %s, %d, want %s", form, b, shown(l), e, shown(want))
	}
	if !bytes.Equal(b, before) {
		t.Errorf("Read(%q, %.40x) changed its bytes", form, before)
	}
}

func wantNotRead(t *testing.T, form string, b []byte, want api.Errno) {
	t.Helper()
	if l, e := Read(form, b); l != nil || e != want {
		t.Errorf("Read(%q, %.40x) of %d bytes = %s, %d, want error %d", form, b, len(b), shown(l), e, want)
	}
}

// P3.1: Number and Text tell the value of it, also of what may not be written.
func TestNumberAndText(t *testing.T) {
	for _, n := range append(numbers(), math.MinInt64, math.MaxInt64, most+1, -most-1) {
		if v := Number(n); v != (Value{N: n}) {
			t.Errorf("Number(%d) = %v", n, v)
		}
	}
	for _, s := range append(texts(), strings.Repeat("a", 1001)) {
		if v := Text(s); v != (Value{T: s}) {
			t.Errorf("Text(%.40q) = %d, %.40q", s, v.N, v.T)
		}
	}
}

// P3.1: the document's example, and bytes worked out by hand.
func TestWriteKnown(t *testing.T) {
	for _, c := range []struct {
		form string
		l    []Value
		b    string
	}{
		{"nt", []Value{{N: -1}, {T: "ab"}}, "\x01\x04ab"},
		{"n", []Value{{N: 0}}, "\x00"},
		{"n", []Value{{N: 1}}, "\x02"},
		{"n", []Value{{N: 63}}, "\x7e"},
		{"n", []Value{{N: -64}}, "\x7f"},
		{"n", []Value{{N: 64}}, "\x80\x01"},
		{"n", []Value{{N: -65}}, "\x81\x01"},
		{"n", []Value{{N: 8191}}, "\xfe\x7f"},
		{"n", []Value{{N: 8192}}, "\x80\x80\x01"},
		{"n", []Value{{N: most - 1}}, "\xfe\xff\xff\xff\xff\xff\xff\xff\x7f"},
		{"n", []Value{{N: most}}, "\x80\x80\x80\x80\x80\x80\x80\x80\x80\x01"},
		{"n", []Value{{N: -most}}, "\xff\xff\xff\xff\xff\xff\xff\xff\x7f"},
		{"t", []Value{{}}, "\x00"},
		{"t", []Value{{T: "+\x00\xff"}}, "\x06+\x00\xff"},
		{"t", []Value{{T: strings.Repeat("a", 64)}}, "\x80\x01" + strings.Repeat("a", 64)},
		{"t", []Value{{T: strings.Repeat("a", 1000)}}, "\xd0\x0f" + strings.Repeat("a", 1000)},
		{"n+", nil, ""},
		{"nt+", []Value{}, ""},
		{"nt+", []Value{{N: 1}, {T: "x"}, {N: 2}, {}}, "\x02\x02x\x04\x00"},
		{"tnn", []Value{{}, {}, {}}, "\x00\x00\x00"},
	} {
		wantWritten(t, c.form, c.l, []byte(c.b))
		wantRead(t, c.form, []byte(c.b), c.l)
	}
}

// P3.1: every number's and text's bytes, against the document's words.
func TestWriteEdges(t *testing.T) {
	for _, n := range numbers() {
		wantWritten(t, "n", []Value{{N: n}}, numberBytes(n))
		wantWritten(t, "nn", []Value{{N: n}, {N: -n}}, append(numberBytes(n), numberBytes(-n)...))
	}
	for _, s := range texts() {
		wantWritten(t, "t", []Value{{T: s}}, append(numberBytes(int64(len(s))), s...))
	}
	for _, n := range []int{0, 1, 2, 199, 200} {
		wantWritten(t, "n+", slices.Repeat([]Value{{N: 5}}, n), bytes.Repeat([]byte{10}, n))
	}
	// However many bytes they are: Write has no limit on those.
	long := slices.Repeat([]Value{{T: strings.Repeat("a", 1000)}}, 200)
	wantWritten(t, "t+", long, wantBytes("t+", long))
}

// P3.1: a form that may not be comes ahead of values that aren't its own, and of too many.
func TestWriteNoForm(t *testing.T) {
	for _, form := range noForms() {
		for _, l := range [][]Value{nil, {{}}, {{N: 1}}, {{T: "a"}}, {{N: 1, T: "a"}}, make([]Value, 21), make([]Value, 201)} {
			wantNotWritten(t, form, l, api.ErrArg)
		}
	}
}

// P3.1: values that aren't of the form.
func TestWriteNoValues(t *testing.T) {
	for _, c := range []struct {
		form string
		l    []Value
	}{
		{"n", nil}, {"t", []Value{}},
		{"n", []Value{{}, {}}}, {"nt", []Value{{}}}, {"nt", make([]Value, 4)}, {"nt", make([]Value, 3)},
		{"n", make([]Value, 201)}, {strings.Repeat("n", 20), make([]Value, 200)},
		{"nn+", make([]Value, 1)}, {"ntn+", make([]Value, 4)}, {"ntn+", make([]Value, 200)},
		{strings.Repeat("n", 19) + "+", make([]Value, 20)},
		{"n", []Value{{N: most + 1}}}, {"n", []Value{{N: -most - 1}}},
		{"n", []Value{{N: math.MaxInt64}}}, {"n", []Value{{N: math.MinInt64}}},
		{"n", []Value{{T: "a"}}}, {"n", []Value{{N: 1, T: "a"}}}, {"n", []Value{{T: "\x00"}}},
		{"t", []Value{{N: 1}}}, {"t", []Value{{N: -1, T: "a"}}}, {"t", []Value{{N: math.MinInt64}}},
		{"t", []Value{{T: strings.Repeat("a", 1001)}}}, {"t", []Value{{T: strings.Repeat("a", 100000)}}},
		{"nt", []Value{{T: "a"}, {N: 1}}}, {"tn", []Value{{N: 1}, {T: "a"}}},
		{"nt+", []Value{{N: 1}, {T: "a"}, {T: "a"}, {N: 1}}},
		{"nt+", []Value{{N: 1}, {T: "a"}, {N: 1}, {T: "a"}, {N: most + 1}, {}}},
	} {
		wantNotWritten(t, c.form, c.l, api.ErrForm)
	}
}

// P3.1: more than 200 values, behind ErrForm for any of them, also of those past the 200th.
func TestWriteFull(t *testing.T) {
	for _, n := range []int{201, 202, 1000, 30000} {
		l := make([]Value, n)
		wantNotWritten(t, "n+", l, api.ErrFull)
		wantNotWritten(t, "t+", l, api.ErrFull)
		l[n-1] = Value{N: most + 1}
		wantNotWritten(t, "n+", l, api.ErrForm)
		l[n-1] = Value{N: 1, T: "a"}
		wantNotWritten(t, "t+", l, api.ErrForm)
	}
	wantNotWritten(t, "nn+", make([]Value, 201), api.ErrForm)
	wantNotWritten(t, "nn+", make([]Value, 202), api.ErrFull)
	wantNotWritten(t, "ntn+", make([]Value, 201), api.ErrFull)
}

// P3.2: a form that may not be comes ahead of too many bytes, and of all that is in them.
func TestReadNoForm(t *testing.T) {
	for _, form := range noForms() {
		for _, b := range [][]byte{nil, {0}, {128}, {128, 0}, make([]byte, 20), make([]byte, 20001)} {
			wantNotRead(t, form, b, api.ErrArg)
		}
	}
}

// P3.2: more than 20000 bytes come ahead of all that is in them; 20000 don't.
func TestReadManyBytes(t *testing.T) {
	for _, n := range []int{20001, 20002, 100000} {
		for _, form := range forms() {
			wantNotRead(t, form, make([]byte, n), api.ErrFull)
			wantNotRead(t, form, bytes.Repeat([]byte{128}, n), api.ErrFull)
		}
	}
	wantNotRead(t, "n", make([]byte, 20000), api.ErrForm)
	wantNotRead(t, "n+", bytes.Repeat([]byte{128}, 20000), api.ErrForm)
	var l []Value
	for range 19 {
		l = append(l, Value{T: strings.Repeat("b", 1000)})
	}
	l = append(l, Value{T: strings.Repeat("c", 960)}) // 20 texts, with 2 bytes each for their lengths
	b := wantBytes("t+", l)
	if len(b) != 20000 {
		t.Fatalf("%d bytes", len(b))
	}
	wantRead(t, "t+", b, l)
	wantRead(t, strings.Repeat("t", 20), b, l)
	l[19].T += "c"
	wantNotRead(t, "t+", wantBytes("t+", l), api.ErrFull)
}

// P3.2: more than 200 values, behind every fault of the bytes, also of those past the 200th value.
func TestReadManyValues(t *testing.T) {
	for _, n := range []int{0, 1, 199, 200} {
		wantRead(t, "n+", make([]byte, n), make([]Value, n))
		wantRead(t, "t+", make([]byte, n), make([]Value, n))
	}
	for _, n := range []int{201, 202, 20000} {
		b := make([]byte, n)
		wantNotRead(t, "n+", b, api.ErrFull)
		wantNotRead(t, "t+", b, api.ErrFull)
		b[n-1] = 128
		wantNotRead(t, "n+", b, api.ErrShort)
		b[n-1] = 1
		wantNotRead(t, "t+", b, api.ErrForm)
		b[n-2], b[n-1] = 128, 0
		wantNotRead(t, "n+", b, api.ErrForm)
	}
	wantNotRead(t, "nn+", make([]byte, 201), api.ErrShort)
	wantNotRead(t, "nn+", make([]byte, 202), api.ErrFull)
	wantRead(t, "nn+", make([]byte, 200), make([]Value, 200))
}

// P3.2: a number's bytes that may not be, and those that are told as soon as they are there.
func TestReadNoNumber(t *testing.T) {
	high := strings.Repeat("\x80", 9)
	for _, c := range []struct {
		b string
		e api.Errno
	}{
		{"", api.ErrShort}, {"\x80", api.ErrShort}, {"\xff", api.ErrShort}, {high, api.ErrShort},
		{strings.Repeat("\xff", 9), api.ErrShort},
		{"\x80\x00", api.ErrForm}, {"\xff\x00", api.ErrForm}, {"\x80\x80\x00", api.ErrForm}, {"\x81\x81\x00", api.ErrForm},
		{high + "\x00", api.ErrForm}, {high + "\x02", api.ErrForm}, {high + "\x03", api.ErrForm}, {high + "\x7f", api.ErrForm},
		{"\x81" + high[1:] + "\x01", api.ErrForm}, {"\x82" + high[1:] + "\x01", api.ErrForm}, {high[1:] + "\x81\x01", api.ErrForm},
		{strings.Repeat("\xff", 9) + "\x01", api.ErrForm},
		{high + "\x80", api.ErrForm}, {high + "\x81", api.ErrForm}, {high + "\xff", api.ErrForm}, {high + "\x80\x01", api.ErrForm},
		{strings.Repeat("\xff", 10), api.ErrForm}, {strings.Repeat("\x80", 11), api.ErrForm}, {strings.Repeat("\x80", 19000), api.ErrForm},
		{high + "\x81\x00", api.ErrForm},
	} {
		for _, form := range []string{"n", "t", "nn", "tt", "nt", "tn"} {
			wantNotRead(t, form, []byte(c.b), c.e)
			if c.b != "" {
				wantNotRead(t, form+"+", []byte(c.b), c.e)
			}
			wantNotRead(t, "n"+form, []byte("\x02"+c.b), c.e)
		}
		wantNotRead(t, "tn", []byte("\x02a"+c.b), c.e)
	}
}

// P3.2: a text's length that may not be is told ahead of bytes that end.
func TestReadNoText(t *testing.T) {
	for _, c := range []struct {
		b string
		e api.Errno
	}{
		{"\x01", api.ErrForm}, {"\x7f", api.ErrForm}, {"\x01aaa", api.ErrForm},
		{"\xd2\x0f", api.ErrForm}, {"\xd2\x0f" + strings.Repeat("a", 1001), api.ErrForm}, {"\xd1\x0f", api.ErrForm},
		{string(numberBytes(most)), api.ErrForm}, {string(numberBytes(-most)), api.ErrForm},
		{string(numberBytes(1 << 32)), api.ErrForm}, {string(numberBytes(1<<32 + 1)), api.ErrForm},
		{"\x82\x00a", api.ErrForm},
		{"\xd0\x0f", api.ErrShort}, {"\xd0\x0f" + strings.Repeat("a", 999), api.ErrShort},
		{"\x02", api.ErrShort}, {"\x04a", api.ErrShort}, {"\x80", api.ErrShort}, {"", api.ErrShort},
		{"\x02ab", api.ErrForm}, {"\x00\x00", api.ErrForm}, {"\xd0\x0f" + strings.Repeat("a", 1001), api.ErrForm},
	} {
		wantNotRead(t, "t", []byte(c.b), c.e)
	}
}

// P3.2: what comes first in the bytes is told, whichever error it is.
func TestReadFirstFault(t *testing.T) {
	for _, c := range []struct {
		form, b string
		e       api.Errno
	}{
		{"nn", "\x80\x00", api.ErrForm}, {"nn", "\x80\x00\x80", api.ErrForm}, {"nt", "\x02\x04a", api.ErrShort},
		{"tn", "\x04a", api.ErrShort}, {"tn", "\x01\x80", api.ErrForm}, {"nt", "\x80", api.ErrShort},
		{"nn", "\x02", api.ErrShort}, {"nn+", "\x02", api.ErrShort}, {"nn+", "\x02\x04\x06", api.ErrShort},
		{"nt+", "\x02\x00\x80\x00", api.ErrForm}, {"tt", "\x02a\x01\x80", api.ErrForm},
		{"n", "\x02\x80", api.ErrForm}, {"n", "\x02\x02", api.ErrForm}, {"nt", "\x02\x02a\x00", api.ErrForm},
	} {
		wantNotRead(t, c.form, []byte(c.b), c.e)
	}
}

// P3.2: bytes that end at every place, and bytes left behind the values.
func TestReadCutAndLeft(t *testing.T) {
	r := rand.New(rand.NewSource(7))
	for _, form := range forms() {
		letters, often := strings.CutSuffix(form, "+")
		l := drawnValues(r, form, 3)
		b := wantBytes(form, l)
		if len(b) > 20000 {
			t.Fatalf("%d bytes", len(b))
		}
		for n := range len(b) {
			whole := often && slices.ContainsFunc([]int{0, 1, 2}, func(times int) bool {
				return len(wantBytes(form, l[:times*len(letters)])) == n
			})
			if !whole {
				wantNotRead(t, form, b[:n], api.ErrShort)
			}
		}
		if !often {
			for c := range 256 {
				wantNotRead(t, form, append(slices.Clone(b), byte(c)), api.ErrForm)
			}
		}
	}
}

// P3.2 and P3.3: all bytes up to some length, of those at the edges: read as the document says, and none but what
// is written tells values.
func TestReadAllShort(t *testing.T) {
	edges := []byte{0, 1, 2, 4, 127, 128, 129, 255}
	last := [][]byte{nil}
	for range 5 {
		var next [][]byte
		for _, b := range last {
			for _, form := range []string{"n", "t", "nt", "tn", "n+", "t+", "nt+", "tnn+"} {
				checkRead(t, form, b)
			}
			for _, c := range edges {
				next = append(next, append(slices.Clone(b), c))
			}
		}
		last = next
	}
}

// checkRead holds Read against the document's words, and Write against what was read.
func checkRead(t *testing.T, form string, b []byte) {
	t.Helper()
	want, e := wantValues(form, b)
	if e != api.OK {
		wantNotRead(t, form, b, e)
		return
	}
	wantRead(t, form, b, want)
	if back, e := Write(form, want); e != api.OK || !bytes.Equal(back, b) {
		t.Errorf("Write(%q, %s) = %.40x, %d, read from %.40x", form, shown(want), back, e, b)
	}
}

// P3.2 and P3.3: numbers of nine, ten and eleven bytes, where u has no room.
func TestReadLongNumbers(t *testing.T) {
	r := rand.New(rand.NewSource(11))
	for range 20000 {
		b := bytes.Repeat([]byte{byte(128 + 127*r.Intn(2))}, 7+r.Intn(3))
		if r.Intn(2) == 0 {
			b[r.Intn(len(b))] = byte(128 + r.Intn(128))
		}
		for range r.Intn(3) {
			b = append(b, []byte{0, 1, 2, 3, 63, 64, 127, 128, 129, 255}[r.Intn(10)])
		}
		checkRead(t, "n", b)
		checkRead(t, "n+", b)
	}
}

// P3.2 and P3.3: bytes that were written and then changed at some places.
func TestReadChanged(t *testing.T) {
	r := rand.New(rand.NewSource(13))
	for range 400 {
		for _, form := range forms() {
			b := wantBytes(form, drawnValues(r, form, r.Intn(4)))
			for range r.Intn(4) {
				if len(b) > 0 {
					b[r.Intn(len(b))] = byte(r.Intn(256))
				}
			}
			checkRead(t, form, b[:len(b)-r.Intn(len(b)/8+1)])
		}
	}
}

// P3.3: what is written is read, and its bytes are the document's.
func TestWrittenIsRead(t *testing.T) {
	r := rand.New(rand.NewSource(17))
	for i := range 200 {
		for _, form := range forms() {
			l := drawnValues(r, form, i%5)
			b := wantBytes(form, l)
			wantWritten(t, form, l, b)
			if len(b) <= 20000 {
				wantRead(t, form, b, l)
			}
		}
	}
	for _, n := range numbers() {
		wantRead(t, "n", numberBytes(n), []Value{{N: n}})
	}
	for _, s := range texts() {
		wantRead(t, "t", append(numberBytes(int64(len(s))), s...), []Value{{T: s}})
	}
}

// R3, R5: answers share nothing with what was given, nor with each other.
func TestNothingShared(t *testing.T) {
	b := []byte("\x06abc\x02")
	l, e := Read("tn", b)
	clear(b)
	if e != api.OK || !slices.Equal(l, []Value{{T: "abc"}, {N: 1}}) {
		t.Errorf("behind a change of the bytes: %s, %d", shown(l), e)
	}
	first, _ := Write("tn", l)
	second, _ := Write("tn", l)
	clear(first)
	if string(second) != "\x06abc\x02" {
		t.Errorf("behind a change of another answer: %q", second)
	}
	more := append([]byte("\x06abc\x02"), 9, 9, 9)
	wantRead(t, "tn", more[:5:5], l)
	wantRead(t, "tn", more[:5], l)
}
