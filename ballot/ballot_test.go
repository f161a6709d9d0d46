package ballot_test

import (
	"bytes"
	"fmt"
	"math"
	"slices"
	"testing"

	"parish/api"
	"parish/ballot"
	"parish/code"
)

const lastRound uint32 = math.MaxUint32

var zero = ballot.Ballot{}

// outside: numbers that are no replica's; the last byte of some is one's.
var outside = []int{-1, -2, -5, -128, -255, -256, 5, 6, 7, 127, 128, 255, 256, 257, 260, 1 << 32, 1<<32 + 1, -1 << 32, math.MinInt, math.MinInt + 1, math.MinInt32, math.MaxInt32, math.MaxInt - 1, math.MaxInt}

// rounds: the edges, those at which the bytes carry and those at which a signed number turns, strictly rising.
var rounds = []uint32{0, 1, 2, 3, 4, 254, 255, 256, 257, 65535, 65536, 1<<24 - 1, 1 << 24, 0x01020304, 1<<31 - 1, 1 << 31, 1<<31 + 1, 1<<32 - 2, lastRound}

// nodes: numbers of replicas and others, strictly rising.
func nodes() []int {
	list := append([]int{0, 1, 2, 3, 4}, outside...)
	slices.Sort(list)
	return list
}

// rising: ballots, formed and others, strictly rising.
func rising() []ballot.Ballot {
	var list []ballot.Ballot
	for _, r := range rounds {
		for _, n := range nodes() {
			list = append(list, ballot.Ballot{Round: r, Node: n})
		}
	}
	return list
}

// formed: those of rising that are formed.
func formed() []ballot.Ballot {
	var list []ballot.Ballot
	for _, r := range rounds {
		for n := range 5 {
			list = append(list, ballot.Ballot{Round: r, Node: n})
		}
	}
	return list
}

// bytesOf answers a ballot's bytes, each reckoned by itself.
func bytesOf(x ballot.Ballot) []byte {
	return []byte{byte(x.Round >> 24), byte(x.Round >> 16), byte(x.Round >> 8), byte(x.Round), byte(x.Node)}
}

// expectFailed asks that no ballot is taken, and that the reader has failed then.
func expectFailed(t *testing.T, name string, r *code.Reader) {
	t.Helper()
	if x := ballot.Take(r); x != zero {
		t.Errorf("%s: %+v", name, x)
	}
	if r.OK() || r.End() || r.Left() != 0 {
		t.Errorf("%s: OK %v, End %v, Left %d", name, r.OK(), r.End(), r.Left())
	}
	if n, s, x := r.Take(0), r.TakeText(40), ballot.Take(r); n != 0 || s != "" || x != zero || r.OK() {
		t.Errorf("%s: behind it: %x, %q, %+v", name, n, s, x)
	}
}

// expectTaken asks that x is taken, with the reader well and that many bytes left.
func expectTaken(t *testing.T, r *code.Reader, x ballot.Ballot, left int) {
	t.Helper()
	if y := ballot.Take(r); y != x {
		t.Errorf("Take of %+v: %+v", x, y)
	}
	if !r.OK() || r.Left() != left || r.End() != (left == 0) {
		t.Errorf("Take of %+v: OK %v, End %v, Left %d, not %d", x, r.OK(), r.End(), r.Left(), left)
	}
}

func expectError(t *testing.T, b ballot.Ballot, node int, want api.Errno) {
	t.Helper()
	if x, e := ballot.Next(b, node); x != zero || e != want {
		t.Errorf("Next(%+v, %d) = %+v, %d, not %d", b, node, x, e, want)
	}
}

// P6.1

func TestFormed(t *testing.T) {
	for _, r := range rounds {
		for n := range 5 {
			if !ballot.Formed(ballot.Ballot{Round: r, Node: n}) {
				t.Errorf("round %d, node %d isn't formed", r, n)
			}
		}
		for _, n := range outside {
			if ballot.Formed(ballot.Ballot{Round: r, Node: n}) {
				t.Errorf("round %d, node %d is formed", r, n)
			}
		}
	}
}

func TestLess(t *testing.T) {
	list := rising()
	for i, a := range list {
		for j, b := range list {
			if got := ballot.Less(a, b); got != (i < j) {
				t.Errorf("Less(%+v, %+v) = %v", a, b, got)
			}
		}
	}
}

func TestLessOfWrittenBallots(t *testing.T) {
	for _, c := range []struct {
		a, b ballot.Ballot
		want bool
	}{
		{ballot.Ballot{Round: 4}, ballot.Ballot{Round: 4, Node: 1}, true},
		{ballot.Ballot{Round: 4, Node: 1}, ballot.Ballot{Round: 4}, false},
		{ballot.Ballot{Round: 3, Node: 4}, ballot.Ballot{Round: 4}, true},
		{ballot.Ballot{Round: 4}, ballot.Ballot{Round: 3, Node: 4}, false},
		{ballot.Ballot{Round: 4, Node: 1}, ballot.Ballot{Round: 4, Node: 1}, false},
		{zero, zero, false}, {zero, ballot.Ballot{Node: 1}, true}, {zero, ballot.Ballot{Round: 1}, true}, {ballot.Ballot{Node: 1}, zero, false},
		// The difference of these wraps round.
		{ballot.Ballot{Node: math.MinInt}, ballot.Ballot{Node: math.MaxInt}, true},
		{ballot.Ballot{Node: math.MaxInt}, ballot.Ballot{Node: math.MinInt}, false},
		{ballot.Ballot{Round: 0}, ballot.Ballot{Round: lastRound}, true},
		{ballot.Ballot{Round: lastRound}, ballot.Ballot{Round: 0}, false},
	} {
		if got := ballot.Less(c.a, c.b); got != c.want {
			t.Errorf("Less(%+v, %+v) = %v", c.a, c.b, got)
		}
	}
}

func TestZeroIsTheLeastFormedBallot(t *testing.T) {
	for _, x := range formed() {
		if ballot.Less(x, zero) || x != zero && !ballot.Less(zero, x) {
			t.Errorf("%+v", x)
		}
	}
}

func TestMostOfNone(t *testing.T) {
	if a, b, c := ballot.Most(), ballot.Most(nil...), ballot.Most([]ballot.Ballot{}...); a != zero || b != zero || c != zero {
		t.Errorf("%+v, %+v, %+v", a, b, c)
	}
}

func TestMostOfOneAndTwo(t *testing.T) {
	list := rising()
	for i, a := range list {
		// Ballots below zero are their own most, too: zero isn't one of them.
		if got := ballot.Most(a); got != a {
			t.Errorf("Most(%+v) = %+v", a, got)
		}
		for j, b := range list {
			if got := ballot.Most(a, b); got != list[max(i, j)] {
				t.Errorf("Most(%+v, %+v) = %+v", a, b, got)
			}
		}
	}
}

func TestMostOfMany(t *testing.T) {
	list := rising()
	last := list[len(list)-1]
	for n := range len(list) {
		turned := append(slices.Clone(list[n:]), list[:n]...)
		if got := ballot.Most(turned...); got != last {
			t.Errorf("turned by %d: %+v", n, got)
		}
		slices.Reverse(turned)
		if got := ballot.Most(turned...); got != last {
			t.Errorf("turned by %d, backwards: %+v", n, got)
		}
		if got := ballot.Most(list[:n+1]...); got != list[n] {
			t.Errorf("the first %d: %+v", n+1, got)
		}
	}
	a, b := ballot.Ballot{Round: 4}, ballot.Ballot{Round: 4, Node: 1}
	if got := ballot.Most(b, a, b, a); got != b {
		t.Errorf("of like ones: %+v", got)
	}
}

func TestMostOfBallotsBelowZero(t *testing.T) {
	if got := ballot.Most(ballot.Ballot{Node: -3}, ballot.Ballot{Node: -2}, ballot.Ballot{Node: -9}); got != (ballot.Ballot{Node: -2}) {
		t.Errorf("%+v", got)
	}
}

func TestMostLeavesItsList(t *testing.T) {
	room := []ballot.Ballot{{Round: 2, Node: 1}, {Round: 9, Node: 4}, {Round: 9, Node: 3}, {Round: 77}, {Round: 88}}
	want := slices.Clone(room)
	if got := ballot.Most(room[:3]...); got != want[1] {
		t.Errorf("%+v", got)
	}
	if !slices.Equal(room, want) {
		t.Errorf("the list is %+v", room)
	}
}

// P6.2

func TestNext(t *testing.T) {
	for _, b := range rising() {
		if b.Round == lastRound {
			continue
		}
		for node := range 5 {
			if x, e := ballot.Next(b, node); x != (ballot.Ballot{Round: b.Round + 1, Node: node}) || e != api.OK {
				t.Errorf("Next(%+v, %d) = %+v, %d", b, node, x, e)
			}
		}
	}
}

func TestNextOfWrittenBallots(t *testing.T) {
	for _, c := range []struct {
		b    ballot.Ballot
		node int
		want ballot.Ballot
	}{
		{ballot.Ballot{Round: 3, Node: 1}, 0, ballot.Ballot{Round: 4}},
		{ballot.Ballot{Round: 3, Node: 1}, 1, ballot.Ballot{Round: 4, Node: 1}},
		{ballot.Ballot{Round: 3, Node: 1}, 4, ballot.Ballot{Round: 4, Node: 4}},
		{zero, 0, ballot.Ballot{Round: 1}},
		{ballot.Ballot{Round: 4294967294, Node: 4}, 3, ballot.Ballot{Round: 4294967295, Node: 3}},
		// That b is formed isn't asked.
		{ballot.Ballot{Round: 7, Node: 9}, 2, ballot.Ballot{Round: 8, Node: 2}},
		{ballot.Ballot{Round: 7, Node: -1}, 2, ballot.Ballot{Round: 8, Node: 2}},
	} {
		if x, e := ballot.Next(c.b, c.node); x != c.want || e != api.OK {
			t.Errorf("Next(%+v, %d) = %+v, %d", c.b, c.node, x, e)
		}
	}
}

func TestNextOfNoReplica(t *testing.T) {
	for _, b := range rising() {
		// In the last round, too: ErrArg is asked first.
		for _, node := range outside {
			expectError(t, b, node, api.ErrArg)
		}
	}
}

func TestNextBehindTheLastRound(t *testing.T) {
	for _, n := range nodes() {
		for node := range 5 {
			expectError(t, ballot.Ballot{Round: lastRound, Node: n}, node, api.ErrFull)
		}
	}
}

func TestPut(t *testing.T) {
	for _, x := range rising() {
		for _, b := range [][]byte{nil, {}, {7}, []byte("ahead of it")} {
			want := append(bytes.Clone(b), bytesOf(x)...)
			if got := ballot.Put(b, x); !bytes.Equal(got, want) {
				t.Errorf("Put(%x, %+v) = %x, not %x", b, x, got, want)
			}
		}
	}
}

func TestPutOfWrittenBallots(t *testing.T) {
	for _, c := range []struct {
		b    string
		x    ballot.Ballot
		want string
	}{
		{"", zero, "\x00\x00\x00\x00\x00"},
		{"\x07", ballot.Ballot{Round: 4, Node: 1}, "\x07\x00\x00\x00\x04\x01"},
		{"", ballot.Ballot{Round: 0x01020304, Node: 3}, "\x01\x02\x03\x04\x03"},
		{"", ballot.Ballot{Round: lastRound, Node: 4}, "\xFF\xFF\xFF\xFF\x04"},
		// Of a node that is no replica's the last byte is put, as of others.
		{"", ballot.Ballot{Round: 1, Node: 5}, "\x00\x00\x00\x01\x05"},
		{"", ballot.Ballot{Round: 1, Node: -1}, "\x00\x00\x00\x01\xFF"},
		{"", ballot.Ballot{Round: 1, Node: 258}, "\x00\x00\x00\x01\x02"},
		{"", ballot.Ballot{Round: 1, Node: -256}, "\x00\x00\x00\x01\x00"},
		{"", ballot.Ballot{Round: 1, Node: math.MaxInt}, "\x00\x00\x00\x01\xFF"},
		{"", ballot.Ballot{Round: 1, Node: math.MinInt}, "\x00\x00\x00\x01\x00"},
	} {
		if got := ballot.Put([]byte(c.b), c.x); string(got) != c.want {
			t.Errorf("Put(%x, %+v) = %x, not %x", c.b, c.x, got, c.want)
		}
	}
}

func TestPutIsNewMemory(t *testing.T) {
	room := bytes.Repeat([]byte{0xEE}, 64)
	want := bytes.Clone(room)
	first := ballot.Put(room[:3], ballot.Ballot{Round: 0x01020304, Node: 2})
	if !bytes.Equal(room, want) {
		t.Errorf("what was handed in is %x", room)
	}
	for i := range first {
		first[i] = 0x55
	}
	if !bytes.Equal(room, want) {
		t.Errorf("behind a spoiled answer, what was handed in is %x", room)
	}
	first = ballot.Put(first, zero)
	second := ballot.Put(first, ballot.Ballot{Round: 1, Node: 1})
	third := ballot.Put(first, ballot.Ballot{Round: 2, Node: 2})
	if !bytes.HasSuffix(second, []byte{0, 0, 0, 1, 1}) || !bytes.HasSuffix(third, []byte{0, 0, 0, 2, 2}) {
		t.Errorf("two behind one: %x, %x", second, third)
	}
}

func TestTake(t *testing.T) {
	for _, x := range formed() {
		for _, behind := range []string{"", "\x00", "\x05", "behind it"} {
			expectTaken(t, code.New(append(bytesOf(x), behind...)), x, len(behind))
		}
	}
}

func TestTakeOfEachNode(t *testing.T) {
	for _, r := range rounds {
		for c := range 256 {
			b := append(bytesOf(ballot.Ballot{Round: r, Node: c}), 0, 0, 0, 0, 0)
			if c < 5 {
				expectTaken(t, code.New(b), ballot.Ballot{Round: r, Node: c}, 5)
			} else {
				expectFailed(t, fmt.Sprintf("%x", b), code.New(b))
				expectFailed(t, fmt.Sprintf("%x, to the end", b[:5]), code.New(b[:5]))
			}
		}
	}
}

func TestTakeOfTooFewBytes(t *testing.T) {
	for _, x := range formed() {
		b := bytesOf(x)
		for n := range len(b) {
			expectFailed(t, fmt.Sprintf("%d bytes of %+v", n, x), code.New(b[:n]))
		}
	}
}

func TestTakeBehindOthers(t *testing.T) {
	x := ballot.Ballot{Round: 0x01020304, Node: 3}
	for _, bad := range []string{"", "\x00\x00\x00\x01", "\x00\x00\x00\x01\x05", "\x00\x00\x00\x00\xFF\x00"} {
		r := code.New([]byte("\x00\x02ab\x01\x02\x03\x04\x03" + bad))
		if s := r.TakeText(2); s != "ab" {
			t.Errorf("ahead of it: %q", s)
		}
		expectTaken(t, r, x, len(bad))
		expectFailed(t, fmt.Sprintf("%x, behind others", bad), r)
	}
}

func TestTakeOfNilAndFailedReaders(t *testing.T) {
	var none *code.Reader
	expectFailed(t, "nil", none)
	for _, x := range formed() {
		r := code.New(bytesOf(x))
		r.Take(9)
		expectFailed(t, "failed ahead of it", r)
	}
}

func TestWhatIsPutIsTaken(t *testing.T) {
	var b []byte
	for _, x := range formed() {
		b = ballot.Put(b, x)
	}
	r := code.New(b)
	for i, x := range formed() {
		expectTaken(t, r, x, len(b)-5*(i+1))
	}
}

// P6.3

func TestNextIsGreaterAndEachNodesOwn(t *testing.T) {
	for _, b := range rising() {
		owner := map[ballot.Ballot]int{}
		for node := range 5 {
			x, e := ballot.Next(b, node)
			if e == api.ErrFull && b.Round == lastRound {
				continue
			}
			if e != api.OK || !ballot.Less(b, x) || ballot.Less(x, b) || ballot.Most(b, x) != x || !ballot.Formed(x) {
				t.Errorf("Next(%+v, %d) = %+v, %d", b, node, x, e)
			}
			if other, ok := owner[x]; ok {
				t.Errorf("Next of %+v for %d and for %d: %+v", b, other, node, x)
			}
			owner[x] = node
		}
	}
}

func TestNoTwoNodesBallotsAreAlike(t *testing.T) {
	owner := map[ballot.Ballot]int{}
	for _, b := range formed() {
		for node := range 5 {
			x, e := ballot.Next(b, node)
			if e != api.OK {
				continue
			}
			if other, ok := owner[x]; ok && other != node {
				t.Errorf("%+v is %d's and %d's", x, other, node)
			}
			owner[x] = node
		}
	}
}

func TestNobodyLeadsZero(t *testing.T) {
	for _, b := range rising() {
		for node := range 5 {
			if x, e := ballot.Next(b, node); e == api.OK && x == zero {
				t.Errorf("Next(%+v, %d) is the zero ballot", b, node)
			}
		}
	}
}

func TestNextOverAndOver(t *testing.T) {
	b := zero
	for i := range 1000 {
		x, e := ballot.Next(b, i*3%5)
		if e != api.OK || x.Round != uint32(i+1) || !ballot.Less(b, x) {
			t.Fatalf("Next(%+v, %d) = %+v, %d", b, i*3%5, x, e)
		}
		b = x
	}
}

func FuzzBallots(f *testing.F) {
	f.Add(uint32(3), 1, uint32(4), 0, 0)
	f.Add(lastRound, 4, uint32(0), -1, 5)
	f.Add(lastRound, math.MinInt, lastRound, math.MaxInt, 4)
	f.Add(uint32(1)<<31, 256, uint32(1)<<31-1, 0, -1)
	f.Fuzz(func(t *testing.T, round uint32, n int, other uint32, m, node int) {
		a, b := ballot.Ballot{Round: round, Node: n}, ballot.Ballot{Round: other, Node: m}
		ahead, behind := ballot.Less(a, b), ballot.Less(b, a)
		if ahead && behind || (ahead || behind) == (a == b) || ahead != (round < other || round == other && n < m) {
			t.Errorf("Less of %+v and %+v: %v, %v", a, b, ahead, behind)
		}
		most := a
		if ahead {
			most = b
		}
		if x, y := ballot.Most(a, b), ballot.Most(b, a, b); x != most || y != most {
			t.Errorf("Most of %+v and %+v: %+v, %+v", a, b, x, y)
		}
		switch x, e := ballot.Next(a, node); {
		case node < 0 || node > 4:
			expectError(t, a, node, api.ErrArg)
		case round == lastRound:
			expectError(t, a, node, api.ErrFull)
		case e != api.OK || x.Node != node || x.Round-1 != round || !ballot.Less(a, x):
			t.Errorf("Next(%+v, %d) = %+v, %d", a, node, x, e)
		}
		if got := ballot.Put([]byte{7}, a); !bytes.Equal(got[1:], bytesOf(a)) || got[0] != 7 {
			t.Errorf("Put of %+v: %x", a, got)
		}
	})
}

func FuzzTakeOfAnyBytes(f *testing.F) {
	f.Add([]byte{0, 0, 0, 4, 1})
	f.Add([]byte{0, 0, 0, 0, 5})
	f.Add([]byte{255, 255, 255, 255, 4, 0})
	f.Add([]byte{1, 2, 3, 4})
	f.Fuzz(func(t *testing.T, b []byte) {
		r := code.New(b)
		if len(b) < 5 || b[4] > 4 {
			expectFailed(t, fmt.Sprintf("%x", b), r)
			return
		}
		x := ballot.Take(r)
		if !ballot.Formed(x) || !bytes.Equal(ballot.Put(nil, x), b[:5]) || !r.OK() || r.Left() != len(b)-5 {
			t.Errorf("Take of %x: %+v, OK %v, Left %d", b, x, r.OK(), r.Left())
		}
	})
}
