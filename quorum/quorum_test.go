package quorum_test

import (
	"fmt"
	"math"
	"math/bits"
	"slices"
	"testing"

	"parish/quorum"
)

const all uint64 = math.MaxUint64

// outside: numbers that are no replica's of any set.
var outside = []int{-1, -2, -63, -64, -65, -128, 64, 65, 127, 128, 1 << 32, -1 << 32, 1<<32 + 1, math.MinInt, math.MinInt + 1, math.MaxInt}

// belowOne and above64: counts of replicas beyond those that a set has bits for.
var (
	belowOne = []int{0, -1, -2, -3, -64, -65, -1 << 32, math.MinInt, math.MinInt + 1}
	above64  = []int{65, 66, 100, 127, 128, 129, 256 + 3, 1<<32 + 3, math.MaxInt - 1, math.MaxInt}
)

// sets: the empty and the full one, each of one replica and each without one, patterns, and some hundred mixed ones.
func sets() []uint64 {
	list := []uint64{0, all, 0xAAAAAAAAAAAAAAAA, 0x5555555555555555, 0xFFFFFFFF, 0xFFFFFFFF00000000, 0x1FFFFFFFF, 0xFFFFFFFF80000000}
	for i := range 64 {
		list = append(list, 1<<i, ^(1 << i), 1<<i-1)
	}
	x := uint64(1)
	for range 200 {
		x = x*6364136223846793005 + 1442695040888963407
		list = append(list, x, x^x>>29)
	}
	return list
}

// members answers which replicas are in the set, by its digits to the base 2, the last one of which is replica 0's.
func members(set uint64) []int {
	var list []int
	digits := fmt.Sprintf("%064b", set)
	for i := range 64 {
		if digits[63-i] == '1' {
			list = append(list, i)
		}
	}
	return list
}

// membersBelow answers those of the set's replicas that are below n.
func membersBelow(set uint64, n int) []int {
	var list []int
	for _, i := range members(set) {
		if i < n {
			list = append(list, i)
		}
	}
	return list
}

// expectAsked asks all that is asked of a set and n, and expects what the list of its members below n tells.
func expectAsked(t *testing.T, set uint64, n int) {
	t.Helper()
	want := membersBelow(set, n)
	if got := quorum.Count(set, n); got != len(want) {
		t.Errorf("Count(%x, %d) = %d, not %d", set, n, got, len(want))
	}
	if got := quorum.List(set, n); !slices.Equal(got, want) {
		t.Errorf("List(%x, %d) = %v, not %v", set, n, got, want)
	}
	if got := quorum.Majority(set, n); got != (n >= 1 && 2*len(want) > min(n, 64)) {
		t.Errorf("Majority(%x, %d) = %v, with %d of them", set, n, got, len(want))
	}
}

// P5.1

func TestAdd(t *testing.T) {
	for _, set := range sets() {
		for i := range 64 {
			want := members(set)
			if !slices.Contains(want, i) {
				want = append(want, i)
				slices.Sort(want)
			}
			if got := quorum.Add(set, i); !slices.Equal(members(got), want) {
				t.Errorf("Add(%x, %d) = %x", set, i, got)
			}
		}
	}
}

func TestAddOfWrittenSets(t *testing.T) {
	for _, c := range []struct {
		set  uint64
		i    int
		want uint64
	}{
		{0, 0, 1}, {0, 1, 2}, {1, 2, 5}, {5, 2, 5}, {5, 0, 5}, {5, 1, 7},
		{0, 31, 0x80000000}, {0, 32, 0x100000000}, {0, 62, 0x4000000000000000}, {0, 63, 0x8000000000000000},
		{1, 63, 0x8000000000000001}, {all - 1, 0, all}, {all, 63, all},
	} {
		if got := quorum.Add(c.set, c.i); got != c.want {
			t.Errorf("Add(%x, %d) = %x, not %x", c.set, c.i, got, c.want)
		}
	}
}

func TestAddOfNoReplicaLeavesTheSet(t *testing.T) {
	for _, set := range sets() {
		for _, i := range outside {
			if got := quorum.Add(set, i); got != set {
				t.Errorf("Add(%x, %d) = %x", set, i, got)
			}
		}
	}
}

func TestHas(t *testing.T) {
	for _, set := range sets() {
		in := members(set)
		for i := range 64 {
			if got := quorum.Has(set, i); got != slices.Contains(in, i) {
				t.Errorf("Has(%x, %d) = %v", set, i, got)
			}
		}
		for _, i := range outside {
			if quorum.Has(set, i) {
				t.Errorf("Has(%x, %d)", set, i)
			}
		}
	}
}

func TestHasWhatWasAdded(t *testing.T) {
	for i := range 64 {
		set := quorum.Add(0, i)
		for j := range 64 {
			if got := quorum.Has(set, j); got != (i == j) {
				t.Errorf("with %d alone: Has %d: %v", i, j, got)
			}
		}
	}
}

func TestCountListAndMajorityOfEachN(t *testing.T) {
	for _, set := range sets() {
		for n := range 65 {
			expectAsked(t, set, n)
		}
	}
}

func TestCountListAndMajorityOfSmallSets(t *testing.T) {
	for set := range uint64(1 << 8) {
		for n := range 10 {
			expectAsked(t, set, n)
			// What else is in it doesn't count.
			expectAsked(t, set|0xFFFFFFFFFFFFFF00, n)
		}
	}
}

func TestOfWrittenSets(t *testing.T) {
	for _, c := range []struct {
		set      uint64
		n        int
		list     []int
		majority bool
	}{
		{5, 3, []int{0, 2}, true}, {5, 4, []int{0, 2}, false}, {5, 5, []int{0, 2}, false}, {5, 2, []int{0}, false}, {5, 1, []int{0}, true},
		{7, 2, []int{0, 1}, true}, {13, 3, []int{0, 2}, true}, {13, 4, []int{0, 2, 3}, true}, {13, 5, []int{0, 2, 3}, true}, {13, 6, []int{0, 2, 3}, false},
		{8, 3, nil, false}, {0xF8, 3, nil, false}, {0xF9, 3, []int{0}, false}, {2, 1, nil, false}, {0, 1, nil, false}, {1, 2, []int{0}, false},
		{1<<63 | 1, 64, []int{0, 63}, false}, {1<<63 | 1, 63, []int{0}, false},
	} {
		if got := quorum.List(c.set, c.n); !slices.Equal(got, c.list) {
			t.Errorf("List(%x, %d) = %v", c.set, c.n, got)
		}
		if got := quorum.Count(c.set, c.n); got != len(c.list) {
			t.Errorf("Count(%x, %d) = %d", c.set, c.n, got)
		}
		if got := quorum.Majority(c.set, c.n); got != c.majority {
			t.Errorf("Majority(%x, %d) = %v", c.set, c.n, got)
		}
	}
}

func TestMajorityOfHalfAndOneMore(t *testing.T) {
	for n := 1; n <= 64; n++ {
		half := uint64(1)<<(n/2) - 1
		if quorum.Majority(half, n) {
			t.Errorf("%d of %d are none", n/2, n)
		}
		if more := half<<1 | 1; !quorum.Majority(more, n) {
			t.Errorf("%d of %d are one", n/2+1, n)
		}
	}
}

func TestLeast(t *testing.T) {
	for n, want := range []int{1, 1, 2, 2, 3, 3, 4, 4, 5, 5, 6} {
		if got := quorum.Least(n); got != want {
			t.Errorf("Least(%d) = %d, not %d", n, got, want)
		}
	}
	for n := 1; n <= 64; n++ {
		if got := quorum.Least(n); 2*got <= n || 2*(got-1) > n {
			t.Errorf("Least(%d) = %d", n, got)
		}
	}
	if a, b := quorum.Least(63), quorum.Least(64); a != 32 || b != 33 {
		t.Errorf("Least of 63 and of 64: %d, %d", a, b)
	}
}

func TestBelowOne(t *testing.T) {
	for _, n := range belowOne {
		if got := quorum.Least(n); got != 1 {
			t.Errorf("Least(%d) = %d", n, got)
		}
		for _, set := range sets() {
			if quorum.Count(set, n) != 0 || len(quorum.List(set, n)) != 0 || quorum.Majority(set, n) {
				t.Errorf("of %x and %d: %d, %v, %v", set, n, quorum.Count(set, n), quorum.List(set, n), quorum.Majority(set, n))
			}
		}
	}
}

func TestAbove64IsAs64(t *testing.T) {
	for _, n := range above64 {
		if got := quorum.Least(n); got != 33 {
			t.Errorf("Least(%d) = %d", n, got)
		}
		for _, set := range sets() {
			expectAsked(t, set, n)
		}
		if quorum.Majority(1<<32-1, n) || !quorum.Majority(1<<33-1, n) {
			t.Errorf("of %d: 32 and 33 of 64", n)
		}
	}
}

func TestListIsNewMemory(t *testing.T) {
	first := quorum.List(13, 4)
	// Spoiled with its spare room, it is still no other answer's.
	room := first[:cap(first)]
	for i := range room {
		room[i] = -7
	}
	if second := quorum.List(13, 4); !slices.Equal(second, []int{0, 2, 3}) {
		t.Errorf("behind a spoiled answer: %v", second)
	}
}

// P5.2

func TestTwoMajoritiesMeet(t *testing.T) {
	for n := 1; n <= 8; n++ {
		for a := range uint64(1) << n {
			for b := range uint64(1) << n {
				if quorum.Majority(a, n) && quorum.Majority(b, n) && quorum.Count(a&b, n) == 0 {
					t.Errorf("of %d: %x and %x", n, a, b)
				}
			}
		}
	}
}

func TestTwoMajoritiesOfManyMeet(t *testing.T) {
	for n := 1; n <= 66; n++ {
		for _, a := range sets() {
			// The set that has least in common with a, and is as great as it can be, is what is left without it.
			if quorum.Majority(a, n) && quorum.Majority(^a, n) {
				t.Errorf("of %d: %x and what is left", n, a)
			}
		}
	}
}

func TestASetOrWhatIsLeftOfAnOddNumber(t *testing.T) {
	for n := 1; n <= 63; n += 2 {
		for _, set := range sets() {
			if quorum.Majority(set, n) == quorum.Majority(^set, n) {
				t.Errorf("of %d: %x: both are %v", n, set, quorum.Majority(set, n))
			}
		}
	}
	for n := 2; n <= 64; n += 2 {
		half := uint64(1)<<(n/2) - 1
		if quorum.Majority(half, n) || quorum.Majority(^half, n) {
			t.Errorf("of %d: a half is a majority", n)
		}
	}
}

func FuzzSets(f *testing.F) {
	f.Add(uint64(5), uint64(3), 3, 2)
	f.Add(all, uint64(0), 64, 63)
	f.Add(all, all, -1, -1)
	f.Add(uint64(1)<<63, all, math.MaxInt, 64)
	f.Add(uint64(13), uint64(2), math.MinInt, math.MinInt)
	f.Fuzz(func(t *testing.T, a, b uint64, n, i int) {
		expectAsked(t, a, n)
		added := quorum.Add(a, i)
		if inside := i >= 0 && i <= 63; quorum.Has(added, i) != inside || added&a != a || bits.OnesCount64(added^a) > 1 || !inside && added != a {
			t.Errorf("Add(%x, %d) = %x", a, i, added)
		}
		if quorum.Majority(a, n) && quorum.Majority(b, n) && quorum.Count(a&b, n) == 0 {
			t.Errorf("of %d: %x and %x", n, a, b)
		}
		if n > 0 && n < 64 && n%2 == 1 && quorum.Majority(a, n) == quorum.Majority(^a, n) {
			t.Errorf("of %d: %x and what is left", n, a)
		}
	})
}
