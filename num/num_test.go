package num_test

import (
	"math"
	"slices"
	"testing"

	"parish/num"
)

const (
	canonNaN  uint64 = 0x7FF8000000000000
	minusInf  uint64 = 0xFFF0000000000000
	minusMax  uint64 = 0xFFEFFFFFFFFFFFFF
	minusTiny uint64 = 0x8000000000000001
	minusZero uint64 = 0x8000000000000000
	plusZero  uint64 = 0
	tiny      uint64 = 1
	most      uint64 = 0x7FEFFFFFFFFFFFFF
	inf       uint64 = 0x7FF0000000000000
)

// nans: quiet and signalling ones, of either sign, the canonical one and the edges of the NaNs' bits among them.
var nans = []uint64{
	canonNaN,
	0x7FF0000000000001,
	0x7FF4000000000000,
	0x7FF7FFFFFFFFFFFF,
	0x7FF8000000000001,
	0x7FFFFFFFFFFFFFFF,
	0xFFF0000000000001,
	0xFFF7FFFFFFFFFFFF,
	0xFFF8000000000000,
	0xFFF8000000000001,
	0xFFFFFFFFFFFFFFFF,
}

type number struct {
	bits uint64
	kind int
}

// rising: numbers that are no NaNs, strictly rising, with the kind of each.
func rising() []number {
	bits := math.Float64bits
	return []number{
		{minusInf, 1},
		{minusMax, 2},
		{bits(-1e300), 2},
		{bits(-2), 2},
		{bits(math.Nextafter(-1, -2)), 2},
		{bits(-1), 2},
		{bits(-0.5), 2},
		{0x8010000000000000, 2}, // the normal one next to -0
		{0x800FFFFFFFFFFFFF, 2}, // the subnormal one farthest from -0
		{0x8000000000000002, 2},
		{minusTiny, 2},
		{minusZero, 3},
		{plusZero, 4},
		{tiny, 5},
		{2, 5},
		{0x000FFFFFFFFFFFFF, 5},
		{0x0010000000000000, 5},
		{bits(0.5), 5},
		{bits(1), 5},
		{bits(math.Nextafter(1, 2)), 5},
		{bits(2), 5},
		{bits(1e300), 5},
		{most, 5},
		{inf, 6},
	}
}

// ranked: NaNs of all kinds and the rising numbers, each with its rank in the order; all NaNs have the lowest.
func ranked() ([]uint64, []int) {
	var l []uint64
	var ranks []int
	for _, b := range nans {
		l, ranks = append(l, b), append(ranks, 0)
	}
	for i, n := range rising() {
		l, ranks = append(l, n.bits), append(ranks, i+1)
	}
	return l, ranks
}

func bitsOf(l ...float64) []uint64 {
	var out []uint64
	for _, f := range l {
		out = append(out, math.Float64bits(f))
	}
	return out
}

func sideOf(a, b int) int {
	switch {
	case a < b:
		return -1
	case a > b:
		return 1
	}
	return 0
}

// P1.1

func TestCanonLeavesNumbersAsTheyAre(t *testing.T) {
	for _, n := range rising() {
		if c := num.Canon(n.bits); c != n.bits {
			t.Errorf("Canon(%x) = %x", n.bits, c)
		}
	}
}

func TestCanonMakesOneOfAllNaNs(t *testing.T) {
	for _, b := range nans {
		if c := num.Canon(b); c != canonNaN {
			t.Errorf("Canon(%x) = %x", b, c)
		}
	}
}

func TestCanonOfEachBitOfANaN(t *testing.T) {
	for i := range 52 {
		for _, b := range []uint64{inf | 1<<i, minusInf | 1<<i} {
			if c := num.Canon(b); c != canonNaN {
				t.Errorf("Canon(%x) = %x", b, c)
			}
		}
	}
}

func TestOrderOfAllPairs(t *testing.T) {
	l, ranks := ranked()
	for i, a := range l {
		for k, b := range l {
			if o := num.Order(a, b); o != sideOf(ranks[i], ranks[k]) {
				t.Errorf("Order(%x, %x) = %d", a, b, o)
			}
		}
	}
}

func TestKindOfNumbers(t *testing.T) {
	for _, n := range rising() {
		if k := num.Kind(n.bits); k != n.kind {
			t.Errorf("Kind(%x) = %d, not %d", n.bits, k, n.kind)
		}
	}
}

func TestKindOfNaNs(t *testing.T) {
	for _, b := range nans {
		if k := num.Kind(b); k != 0 {
			t.Errorf("Kind(%x) = %d", b, k)
		}
	}
}

// P1.2

func TestKeyOfNaNs(t *testing.T) {
	for _, b := range nans {
		if k := num.Key(b); k != 0 {
			t.Errorf("Key(%x) = %x", b, k)
		}
	}
}

func TestKeyAsWritten(t *testing.T) {
	for _, x := range []struct{ bits, key uint64 }{
		{plusZero, 0x8000000000000000},
		{tiny, 0x8000000000000001},
		{0x3FF0000000000000, 0xBFF0000000000000},
		{most, 0xFFEFFFFFFFFFFFFF},
		{inf, 0xFFF0000000000000},
		{minusZero, 0x7FFFFFFFFFFFFFFF},
		{minusTiny, 0x7FFFFFFFFFFFFFFE},
		{0xBFF0000000000000, 0x400FFFFFFFFFFFFF},
		{minusMax, 0x0010000000000000},
		{minusInf, 0x000FFFFFFFFFFFFF},
	} {
		if k := num.Key(x.bits); k != x.key {
			t.Errorf("Key(%x) = %x, not %x", x.bits, k, x.key)
		}
	}
}

func TestKeysAreOrderedAsNumbersAre(t *testing.T) {
	l, ranks := ranked()
	for i, a := range l {
		for k, b := range l {
			if (num.Key(a) < num.Key(b)) != (ranks[i] < ranks[k]) || (num.Key(a) == num.Key(b)) != (ranks[i] == ranks[k]) {
				t.Errorf("keys of %x and %x: %x and %x", a, b, num.Key(a), num.Key(b))
			}
		}
		if (num.Key(a) == 0) != (ranks[i] == 0) {
			t.Errorf("Key(%x) = %x", a, num.Key(a))
		}
	}
}

// P1.3

func TestSum(t *testing.T) {
	for _, x := range []struct {
		name string
		l    []uint64
		sum  uint64
	}{
		{"nil", nil, plusZero},
		{"empty", []uint64{}, plusZero},
		{"one", bitsOf(2.5), math.Float64bits(2.5)},
		{"some", bitsOf(1, 2, -4.5), math.Float64bits(-1.5)},
		{"+0 alone", []uint64{plusZero}, plusZero},
		{"-0 alone", []uint64{minusZero}, minusZero},
		{"-0, -0", []uint64{minusZero, minusZero}, minusZero},
		{"-0, -0, -0", []uint64{minusZero, minusZero, minusZero}, minusZero},
		{"+0, -0", []uint64{plusZero, minusZero}, plusZero},
		{"-0, +0", []uint64{minusZero, plusZero}, plusZero},
		{"-0, -0, +0", []uint64{minusZero, minusZero, plusZero}, plusZero},
		{"1, -1", bitsOf(1, -1), plusZero},
		{"-1, 1, -0", []uint64{0xBFF0000000000000, 0x3FF0000000000000, minusZero}, plusZero},
		{"-0, 1", []uint64{minusZero, 0x3FF0000000000000}, 0x3FF0000000000000},
		{"each rounded: from the left", bitsOf(1e16, 1, 1), math.Float64bits(1e16)},
		{"each rounded: the small ones first", bitsOf(1, 1, 1e16), math.Float64bits(1e16 + 2)},
		{"each rounded: the first swallows", bitsOf(1, 1e300, -1e300), plusZero},
		{"each rounded: tenths", bitsOf(0.1, 0.2, 0.3), 0x3FE3333333333334},
		{"halfway, to even", bitsOf(1<<53, 1), math.Float64bits(1 << 53)},
		{"subnormal ones", []uint64{tiny, tiny, tiny}, 3},
		{"subnormal ones of both signs", []uint64{tiny, minusTiny}, plusZero},
		{"the greatest alone", []uint64{most}, most},
		{"the least alone", []uint64{minusMax}, minusMax},
		{"too great", []uint64{most, most}, inf},
		{"too small", []uint64{minusMax, minusMax}, minusInf},
		{"too great, and not back", []uint64{most, most, minusMax, minusMax}, inf},
		{"both greatest", []uint64{most, minusMax}, plusZero},
		{"infinity alone", []uint64{inf}, inf},
		{"minus infinity alone", []uint64{minusInf}, minusInf},
		{"infinities of one sign", []uint64{inf, inf}, inf},
		{"minus infinities", []uint64{minusInf, minusInf, most}, minusInf},
		{"infinity and a number", []uint64{minusMax, inf, minusMax}, inf},
	} {
		if s := num.Sum(x.l); s != x.sum {
			t.Errorf("%s: %x, not %x", x.name, s, x.sum)
		}
	}
}

func TestLeastAndMost(t *testing.T) {
	bits := math.Float64bits
	for _, x := range []struct {
		name        string
		l           []uint64
		least, most uint64
	}{
		{"one", bitsOf(3), bits(3), bits(3)},
		{"one -0", []uint64{minusZero}, minusZero, minusZero},
		{"one +0", []uint64{plusZero}, plusZero, plusZero},
		{"alike", bitsOf(3, 3), bits(3), bits(3)},
		{"first and last", bitsOf(-2, 0.5, 7), bits(-2), bits(7)},
		{"last and first", bitsOf(7, 0.5, -2), bits(-2), bits(7)},
		{"in the midst", bitsOf(1, -5, 9, 2), bits(-5), bits(9)},
		{"negative ones", bitsOf(-3, -1, -2), bits(-3), bits(-1)},
		{"zeros", []uint64{plusZero, minusZero}, minusZero, plusZero},
		{"zeros, turned", []uint64{minusZero, plusZero}, minusZero, plusZero},
		{"infinities", []uint64{most, inf, minusInf, minusMax}, minusInf, inf},
		{"finite ones at the edges", []uint64{tiny, minusMax, most, minusTiny}, minusMax, most},
		{"a NaN first", []uint64{0xFFF0000000000001, minusInf}, canonNaN, minusInf},
		{"a NaN last", []uint64{minusInf, inf, 0x7FFFFFFFFFFFFFFF}, canonNaN, inf},
		{"a NaN in the midst", []uint64{tiny, 0xFFFFFFFFFFFFFFFF, minusZero}, canonNaN, tiny},
		{"NaNs alone", nans[1:], canonNaN, canonNaN},
	} {
		if b, ok := num.Least(x.l); b != x.least || !ok {
			t.Errorf("%s: Least %x %v, not %x", x.name, b, ok, x.least)
		}
		if b, ok := num.Most(x.l); b != x.most || !ok {
			t.Errorf("%s: Most %x %v, not %x", x.name, b, ok, x.most)
		}
	}
}

func TestLeastAndMostOfOneNaN(t *testing.T) {
	for _, n := range nans {
		if b, ok := num.Least([]uint64{n}); b != canonNaN || !ok {
			t.Errorf("Least of %x: %x %v", n, b, ok)
		}
		if b, ok := num.Most([]uint64{n}); b != canonNaN || !ok {
			t.Errorf("Most of %x: %x %v", n, b, ok)
		}
	}
}

func TestLeastAndMostOfNone(t *testing.T) {
	for _, l := range [][]uint64{nil, {}, make([]uint64, 0, 4)} {
		if b, ok := num.Least(l); b != 0 || ok {
			t.Errorf("Least: %x %v", b, ok)
		}
		if b, ok := num.Most(l); b != 0 || ok {
			t.Errorf("Most: %x %v", b, ok)
		}
	}
}

func TestLeastAndMostOfAllPairs(t *testing.T) {
	l, ranks := ranked()
	for i, a := range l {
		for k, b := range l {
			low, high := a, b
			if ranks[i] > ranks[k] {
				low, high = b, a
			}
			if c, ok := num.Least([]uint64{a, b}); c != num.Canon(low) || !ok {
				t.Errorf("Least of %x, %x: %x %v", a, b, c, ok)
			}
			if c, ok := num.Most([]uint64{a, b}); c != num.Canon(high) || !ok {
				t.Errorf("Most of %x, %x: %x %v", a, b, c, ok)
			}
		}
	}
}

// P1.4

func TestOrderIsTotal(t *testing.T) {
	l, _ := ranked()
	for _, a := range l {
		if num.Order(a, a) != 0 {
			t.Errorf("%x isn't alike to itself", a)
		}
		for _, b := range l {
			if num.Order(a, b) != -num.Order(b, a) {
				t.Errorf("%x, %x: not the same from both sides", a, b)
			}
			if (num.Order(a, b) == 0) != (num.Canon(a) == num.Canon(b)) {
				t.Errorf("%x, %x: alike, but not the same number, or the other way round", a, b)
			}
			for _, c := range l {
				if num.Order(a, b) <= 0 && num.Order(b, c) <= 0 && num.Order(a, c) > 0 {
					t.Errorf("%x, %x, %x: not in one line", a, b, c)
				}
			}
		}
	}
}

func TestNaNAnywhereMakesASumNaN(t *testing.T) {
	others := []uint64{0x3FF0000000000000, minusZero, inf, most}
	for _, n := range nans {
		for count := range len(others) + 1 {
			for at := range count + 1 {
				l := slices.Insert(slices.Clone(others[:count]), at, n)
				if s := num.Sum(l); s != canonNaN {
					t.Errorf("Sum(%x) = %x", l, s)
				}
			}
		}
		for _, m := range nans {
			if s := num.Sum([]uint64{n, m}); s != canonNaN {
				t.Errorf("Sum of %x, %x: %x", n, m, s)
			}
		}
	}
}

func TestInfinitiesOfBothSignsMakeASumNaN(t *testing.T) {
	for _, l := range [][]uint64{
		{inf, minusInf},
		{minusInf, inf},
		{inf, 0x3FF0000000000000, minusInf},
		{0x3FF0000000000000, minusInf, inf, plusZero},
		{minusInf, minusInf, inf},
		{inf, minusInf, inf},
		{most, most, minusInf}, // the sum of the first two is an infinity
	} {
		if s := num.Sum(l); s != canonNaN {
			t.Errorf("Sum(%x) = %x", l, s)
		}
	}
}

// R5

func TestListsAreLeftAsTheyAre(t *testing.T) {
	room := []uint64{0xFFF0000000000001, inf, minusZero, minusInf, plusZero, 0x7FF0000000000001, 17, 18}
	before := slices.Clone(room)
	for n := range len(room) + 1 {
		l := room[:n]
		num.Sum(l)
		num.Least(l)
		num.Most(l)
		if !slices.Equal(room, before) {
			t.Fatalf("of %d: %x, not %x", n, room, before)
		}
	}
}

func FuzzOrderAgreesWithFloat64(f *testing.F) {
	l, _ := ranked()
	for i, b := range l {
		f.Add(b, l[len(l)-1-i])
	}
	f.Fuzz(func(t *testing.T, a, b uint64) {
		x, y := math.Float64frombits(a), math.Float64frombits(b)
		o := num.Order(a, b)
		switch {
		case x != x || y != y:
			if want := sideOf(min(num.Kind(a), 1), min(num.Kind(b), 1)); o != want {
				t.Errorf("Order(%x, %x) = %d", a, b, o)
			}
		case x == 0 && y == 0:
			if want := sideOf(num.Kind(a), num.Kind(b)); o != want {
				t.Errorf("Order(%x, %x) = %d", a, b, o)
			}
		case (o < 0) != (x < y) || (o > 0) != (x > y):
			t.Errorf("Order(%x, %x) = %d", a, b, o)
		}
		if x == x && y == y && x+y == x+y && math.Float64frombits(num.Sum([]uint64{a, b})) != x+y {
			t.Errorf("Sum of %x, %x", a, b)
		}
	})
}
