package money

import (
	"math"
	"math/big"
	"math/rand"
	"slices"
	"testing"

	"groupage/api"
)

const top int64 = api.MostNumber

// edges are the numbers beside which the answers change: the limits, the ends of int64, powers of two and roots of the limit.
func edges() []int64 {
	l := []int64{math.MinInt64, math.MinInt64 + 1, math.MaxInt64, math.MaxInt64 - 1}
	for _, n := range []int64{0, 3, 10, 1 << 30, 1 << 31, 1 << 32, 1 << 61, top / 2, top / 3, top} {
		for d := int64(-2); d <= 2; d++ {
			l = append(l, n+d, -(n + d))
		}
	}
	slices.Sort(l)
	return slices.Compact(l)
}

// draws are numbers of all sizes, the same at every run.
func draws(n int) []int64 {
	r := rand.New(rand.NewSource(1))
	l := make([]int64, n)
	for i := range l {
		l[i] = int64(r.Uint64()) >> r.Intn(64)
	}
	return l
}

func may(n int64) bool { return n >= -top && n <= top }

// told is what the document asks for a number that was worked out without limits.
func told(n *big.Int) (int64, api.Errno) {
	if n.CmpAbs(big.NewInt(top)) > 0 {
		return 0, api.ErrFull
	}
	return n.Int64(), api.OK
}

func wantAdd(a, b int64) (int64, api.Errno) {
	if !may(a) || !may(b) {
		return 0, api.ErrArg
	}
	return told(new(big.Int).Add(big.NewInt(a), big.NewInt(b)))
}

func wantMul(a, b int64) (int64, api.Errno) {
	if !may(a) || !may(b) {
		return 0, api.ErrArg
	}
	return told(new(big.Int).Mul(big.NewInt(a), big.NewInt(b)))
}

func wantSum(l []int64) (int64, api.Errno) {
	for _, n := range l {
		if !may(n) {
			return 0, api.ErrArg
		}
	}
	sum := new(big.Int)
	for _, n := range l {
		if _, e := told(sum.Add(sum, big.NewInt(n))); e != api.OK {
			return 0, e
		}
	}
	return told(sum)
}

func wantShare(total, part, all int64) (int64, int64, api.Errno) {
	if !may(total) || !may(all) || total < 0 || all < 1 || part < 0 || part > all {
		return 0, 0, api.ErrArg
	}
	product := new(big.Int).Mul(big.NewInt(total), big.NewInt(part))
	share, left := new(big.Int).QuoRem(product, big.NewInt(all), new(big.Int))
	return share.Int64(), left.Int64(), api.OK
}

type pairCase struct {
	a, b, want int64
	e          api.Errno
}

func checkPairs(t *testing.T, f func(a, b int64) (int64, api.Errno), cases []pairCase) {
	t.Helper()
	for _, c := range cases {
		if n, e := f(c.a, c.b); n != c.want || e != c.e {
			t.Errorf("of %d, %d: %d, %d; asked %d, %d", c.a, c.b, n, e, c.want, c.e)
		}
	}
}

// P1.1: sums, ordinary, at the limits and beside them, and of numbers that may not be.
func TestAdd(t *testing.T) {
	checkPairs(t, Add, []pairCase{
		{0, 0, 0, api.OK}, {2, 3, 5, api.OK}, {3, -5, -2, api.OK}, {-3, -5, -8, api.OK},
		{top, 0, top, api.OK}, {-top, 0, -top, api.OK}, {top - 1, 1, top, api.OK}, {1 - top, -1, -top, api.OK},
		{top, -top, 0, api.OK}, {top, -1, top - 1, api.OK},
		{top, 1, 0, api.ErrFull}, {-top, -1, 0, api.ErrFull}, {top, top, 0, api.ErrFull}, {-top, -top, 0, api.ErrFull},
		{top + 1, 0, 0, api.ErrArg}, {top + 1, -1, 0, api.ErrArg}, {0, top + 1, 0, api.ErrArg}, {-top - 1, 1, 0, api.ErrArg},
		{1, -top - 1, 0, api.ErrArg}, {math.MaxInt64, math.MaxInt64, 0, api.ErrArg}, {math.MinInt64, math.MinInt64, 0, api.ErrArg},
		{math.MinInt64, top, 0, api.ErrArg}, {top, math.MaxInt64, 0, api.ErrArg},
	})
}

// P1.1: products, ordinary, at the limits and beside them, and of numbers that may not be.
func TestMul(t *testing.T) {
	checkPairs(t, Mul, []pairCase{
		{0, 0, 0, api.OK}, {6, 7, 42, api.OK}, {-3, 5, -15, api.OK}, {3, -5, -15, api.OK}, {-3, -5, 15, api.OK},
		{top, 0, 0, api.OK}, {0, -top, 0, api.OK}, {top, 1, top, api.OK}, {top, -1, -top, api.OK}, {-top, -1, top, api.OK},
		{top / 3, 3, top, api.OK}, {top / 3, -3, -top, api.OK}, {top/3 + 1, 3, 0, api.ErrFull}, {1<<31 - 1, 1<<31 + 1, top, api.OK},
		{1 << 31, 1 << 31, 0, api.ErrFull}, {-1 << 31, 1 << 31, 0, api.ErrFull}, {1 << 32, 1 << 32, 0, api.ErrFull},
		{top, 2, 0, api.ErrFull}, {top, -2, 0, api.ErrFull}, {top, top, 0, api.ErrFull}, {-top, -top, 0, api.ErrFull}, {-top, top, 0, api.ErrFull},
		{top + 1, 0, 0, api.ErrArg}, {0, top + 1, 0, api.ErrArg}, {-top - 1, 0, 0, api.ErrArg}, {0, -top - 1, 0, api.ErrArg},
		{math.MinInt64, -1, 0, api.ErrArg}, {-1, math.MinInt64, 0, api.ErrArg}, {math.MaxInt64, 2, 0, api.ErrArg}, {top, math.MinInt64, 0, api.ErrArg},
	})
}

// P1.1: sums of lists; a first sum that may not be counts though the whole may, and a wrong number counts ahead of it.
func TestSum(t *testing.T) {
	for _, c := range []struct {
		l    []int64
		want int64
		e    api.Errno
	}{
		{nil, 0, api.OK}, {[]int64{}, 0, api.OK}, {[]int64{5}, 5, api.OK}, {[]int64{1, 2, 3, -10}, -4, api.OK},
		{[]int64{top}, top, api.OK}, {[]int64{-top}, -top, api.OK}, {[]int64{top, -top, -top, top}, 0, api.OK},
		{[]int64{top, -1, 1}, top, api.OK}, {[]int64{top, 1, -1}, 0, api.ErrFull}, {[]int64{-top, -1, 1}, 0, api.ErrFull},
		{[]int64{top, top, top, top}, 0, api.ErrFull}, {[]int64{top, top, -top, -top}, 0, api.ErrFull}, {[]int64{0, -top, -top}, 0, api.ErrFull},
		{[]int64{top + 1}, 0, api.ErrArg}, {[]int64{-top - 1}, 0, api.ErrArg}, {[]int64{-1, top + 1}, 0, api.ErrArg},
		{[]int64{top, 1, top + 1}, 0, api.ErrArg}, {[]int64{top, 1, -1, math.MinInt64}, 0, api.ErrArg}, {[]int64{math.MaxInt64, 0}, 0, api.ErrArg},
	} {
		given := slices.Clone(c.l)
		if n, e := Sum(c.l); n != c.want || e != c.e {
			t.Errorf("Sum(%v): %d, %d; asked %d, %d", c.l, n, e, c.want, c.e)
		}
		if !slices.Equal(given, c.l) {
			t.Errorf("Sum(%v) changed its argument to %v", given, c.l)
		}
	}
}

// P1.1: at all pairs of edges, and of draws, the answers are those of numbers without limits.
func TestSumsAndProductsAgainstBig(t *testing.T) {
	for _, l := range [][]int64{edges(), draws(300)} {
		for _, a := range l {
			for _, b := range l {
				n, e := Add(a, b)
				if m, f := wantAdd(a, b); n != m || e != f {
					t.Fatalf("Add(%d, %d): %d, %d; asked %d, %d", a, b, n, e, m, f)
				}
				n, e = Mul(a, b)
				if m, f := wantMul(a, b); n != m || e != f {
					t.Fatalf("Mul(%d, %d): %d, %d; asked %d, %d", a, b, n, e, m, f)
				}
			}
		}
	}
}

// P1.1: lists of edges, in many orders, are summed as numbers without limits are.
func TestSumAgainstBig(t *testing.T) {
	r := rand.New(rand.NewSource(2))
	all := edges()
	good := slices.DeleteFunc(slices.Clone(all), func(n int64) bool { return !may(n) })
	seen := map[api.Errno]int{}
	for i := range 20000 {
		from := good
		if i%4 == 0 {
			from = all
		}
		l := make([]int64, r.Intn(8))
		for k := range l {
			l[k] = from[r.Intn(len(from))]
		}
		n, e := Sum(l)
		if m, f := wantSum(l); n != m || e != f {
			t.Fatalf("Sum(%v): %d, %d; asked %d, %d", l, n, e, m, f)
		}
		seen[e]++
	}
	if seen[api.OK] == 0 || seen[api.ErrArg] == 0 || seen[api.ErrFull] == 0 {
		t.Errorf("the lists do not reach every answer: %v", seen)
	}
}

// P1.2: shares, ordinary, where total times part is above the limit, and of wrong numbers.
func TestShare(t *testing.T) {
	for _, c := range []struct {
		total, part, all, share, left int64
		e                             api.Errno
	}{
		{10, 1, 3, 3, 1, api.OK}, {10, 2, 3, 6, 2, api.OK}, {10, 3, 3, 10, 0, api.OK}, {7, 5, 9, 3, 8, api.OK},
		{10, 0, 3, 0, 0, api.OK}, {0, 0, 1, 0, 0, api.OK}, {0, 2, 3, 0, 0, api.OK}, {top, 1, 1, top, 0, api.OK}, {top, 0, 1, 0, 0, api.OK},
		{top, 1, 2, top / 2, 1, api.OK}, {top, 2, 3, top / 3 * 2, 0, api.OK}, {1, top, top, 1, 0, api.OK}, {1, top - 1, top, 0, top - 1, api.OK},
		{top, top, top, top, 0, api.OK}, {top, top - 1, top, top - 1, 0, api.OK}, {top - 1, top - 1, top, top - 2, 1, api.OK},
		{top, 1, top, 1, 0, api.OK}, {top, top - 1, top - 1, top, 0, api.OK}, {top, 0, top, 0, 0, api.OK},
		{-1, 1, 2, 0, 0, api.ErrArg}, {-top, 1, 2, 0, 0, api.ErrArg}, {-top - 1, 1, 2, 0, 0, api.ErrArg}, {top + 1, 1, 2, 0, 0, api.ErrArg},
		{1, -1, 2, 0, 0, api.ErrArg}, {1, 3, 2, 0, 0, api.ErrArg}, {1, math.MinInt64, 2, 0, 0, api.ErrArg}, {1, math.MaxInt64, 2, 0, 0, api.ErrArg},
		{1, 0, 0, 0, 0, api.ErrArg}, {1, -1, -1, 0, 0, api.ErrArg}, {1, 0, -1, 0, 0, api.ErrArg}, {1, 1, top + 1, 0, 0, api.ErrArg},
		{1, top + 1, top + 1, 0, 0, api.ErrArg}, {1, top + 1, top, 0, 0, api.ErrArg}, {1, 0, math.MinInt64, 0, 0, api.ErrArg},
		{math.MaxInt64, math.MaxInt64, math.MaxInt64, 0, 0, api.ErrArg}, {math.MinInt64, 0, 1, 0, 0, api.ErrArg},
	} {
		if n, left, e := Share(c.total, c.part, c.all); n != c.share || left != c.left || e != c.e {
			t.Errorf("Share(%d, %d, %d): %d, %d, %d; asked %d, %d, %d", c.total, c.part, c.all, n, left, e, c.share, c.left, c.e)
		}
	}
}

func checkShare(t *testing.T, total, part, all int64) {
	t.Helper()
	n, left, e := Share(total, part, all)
	if m, rest, f := wantShare(total, part, all); n != m || left != rest || e != f {
		t.Fatalf("Share(%d, %d, %d): %d, %d, %d; asked %d, %d, %d", total, part, all, n, left, e, m, rest, f)
	}
}

// P1.2: at all triples of edges, of small numbers, and of draws, shares are those of numbers without limits.
func TestShareAgainstBig(t *testing.T) {
	small := []int64{}
	for n := int64(-2); n <= 20; n++ {
		small = append(small, n)
	}
	for _, l := range [][]int64{edges(), small, draws(40)} {
		for _, total := range l {
			for _, part := range l {
				for _, all := range l {
					checkShare(t, total, part, all)
				}
			}
		}
	}
	r := rand.New(rand.NewSource(3))
	for range 20000 {
		all := 1 + r.Int63n(top)>>r.Intn(62)
		checkShare(t, r.Int63n(top)>>r.Intn(62), r.Int63n(all+1), all)
	}
}

// P1.3: sums and products are the same whichever number comes first, and a sum of two is Sum's.
func TestEitherWay(t *testing.T) {
	for _, l := range [][]int64{edges(), draws(200)} {
		for _, a := range l {
			for _, b := range l {
				n, e := Add(a, b)
				if m, f := Add(b, a); n != m || e != f {
					t.Fatalf("Add(%d, %d): %d, %d; the other way %d, %d", a, b, n, e, m, f)
				}
				if m, f := Sum([]int64{a, b}); n != m || e != f {
					t.Fatalf("Add(%d, %d): %d, %d; Sum %d, %d", a, b, n, e, m, f)
				}
				n, e = Mul(a, b)
				if m, f := Mul(b, a); n != m || e != f {
					t.Fatalf("Mul(%d, %d): %d, %d; the other way %d, %d", a, b, n, e, m, f)
				}
			}
		}
	}
}

// splits cuts all into k parts, at places that r draws.
func splits(r *rand.Rand, all int64, k int) []int64 {
	cuts := []int64{0, all}
	for range k - 1 {
		cuts = append(cuts, r.Int63n(all+1))
	}
	slices.Sort(cuts)
	parts := make([]int64, k)
	for i := range parts {
		parts[i] = cuts[i+1] - cuts[i]
	}
	return parts
}

// P1.3: shares of parts that are all together lack less than one for each part, and never are too much.
func TestSharesLackLittle(t *testing.T) {
	r := rand.New(rand.NewSource(4))
	for range 5000 {
		total, all := r.Int63n(top)>>r.Intn(62), 1+r.Int63n(top)>>r.Intn(62)
		if r.Intn(4) == 0 {
			total = top
		}
		if r.Intn(4) == 0 {
			all = top
		}
		parts := splits(r, all, 1+r.Intn(8))
		shares := make([]int64, len(parts))
		for i, part := range parts {
			share, left, e := Share(total, part, all)
			if e != api.OK || left < 0 || left >= all {
				t.Fatalf("Share(%d, %d, %d): %d, %d, %d", total, part, all, share, left, e)
			}
			shares[i] = share
		}
		sum, e := Sum(shares)
		if lack := total - sum; e != api.OK || lack < 0 || lack >= int64(len(parts)) {
			t.Fatalf("total %d, parts %v: shares %v, sum %d, %d", total, parts, shares, sum, e)
		}
	}
}
