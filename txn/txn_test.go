package txn_test

import (
	"bytes"
	"fmt"
	"math"
	"slices"
	"strings"
	"testing"
	"unicode/utf8"

	"parish/api"
	"parish/code"
	"parish/txn"
)

const (
	lastSeq    = 1048576
	longestKey = "zzzzzzzzzzzz"
	lastVer    = uint64(math.MaxUint64)
)

// outsideSession and outsideSeq: numbers that no id has; the last bytes of some are one's.
var (
	outsideSession = []int{0, 9, 10, 255, 256, 257, 264, -1, -8, -255, -256, 1 << 32, 1<<32 + 1, -1 << 32, math.MinInt, math.MinInt + 1, math.MaxInt32, math.MaxInt}
	outsideSeq     = []int{0, lastSeq + 1, lastSeq + 2, 1 << 21, 1<<24 - 1, 1 << 31, 1<<32 - 1, 1 << 32, 1<<32 + 1, -1, -2, -lastSeq, -1 << 32, math.MinInt, math.MinInt + 1, math.MaxInt32, math.MaxInt}
)

// insideSeq: the numbers at the edges, and those at which the bytes carry.
var insideSeq = []int{1, 2, 5, 255, 256, 257, 65535, 65536, 0x010203, lastSeq - 1, lastSeq}

var (
	none    = api.Value{}
	one     = api.Value{Kind: api.Num, Bits: 0x3FF0000000000000}
	notANum = api.Value{Kind: api.Num, Bits: 0x7FF8000000000000}
)

func id(session, seq int) api.Id {
	return api.Id{Session: session, Seq: seq}
}

func text(s string) api.Value {
	return api.Value{Kind: api.Text, Text: s}
}

func read(key string, version uint64) api.Read {
	return api.Read{Key: key, Version: version}
}

func write(key string, v api.Value) api.Write {
	return api.Write{Key: key, Value: v}
}

// reads and writes of the keys, each with a version or a value of its own.
func reads(keys ...string) []api.Read {
	var list []api.Read
	for i, key := range keys {
		list = append(list, read(key, uint64(i)*7))
	}
	return list
}

func writes(keys ...string) []api.Write {
	var list []api.Write
	for i, key := range keys {
		list = append(list, write(key, []api.Value{text("v" + key), one, none}[i%3]))
	}
	return list
}

func with(x api.Id, r []api.Read, w []api.Write) api.Txn {
	return api.Txn{Id: x, Reads: r, Writes: w}
}

func conf(replicas []int, bounds ...string) api.Config {
	return api.Config{Replicas: replicas, Bounds: bounds}
}

// configs: formed configurations.
func configs() []api.Config {
	return []api.Config{
		conf([]int{1}),
		conf([]int{5}),
		conf([]int{1, 3}, "g"),
		conf([]int{3, 1}, "a"),
		conf([]int{3, 1}, longestKey),
		conf([]int{3, 1, 5}, "g", "p"),
		conf([]int{1, 1, 1}, "a", "aa"),
		conf([]int{1, 3, 1, 5}, "g", "p", "u"),
		conf([]int{1, 1, 1, 1}, "b", "c", "d"),
	}
}

// misformedConfigs: configurations that aren't formed; the bounds of some would cut well.
func misformedConfigs() []api.Config {
	return []api.Config{
		{},
		conf([]int{2}),
		conf([]int{3, 0}, "g"),
		conf([]int{3, 1}),
		conf([]int{3}, "g"),
		conf([]int{3, 1}, "G"),
		conf([]int{3, 1, 1}, "p", "g"),
		conf([]int{3, 1, 1}, "g", "g"),
		conf([]int{1, 1, 1, 1, 1}, "b", "c", "d", "e"),
	}
}

// formed: transactions at the edges of what is formed.
func formed() []api.Txn {
	six := []string{"0", "9", "a", "a0", "aa", longestKey}
	all := []api.Txn{
		with(id(2, 5), []api.Read{read("a", 3), read("z", 0)}, []api.Write{write("a", text("v"))}),
		with(id(1, 1), reads("a"), nil),
		with(id(1, 1), nil, writes("a")),
		{Id: id(8, lastSeq), Reads: []api.Read{}, Writes: writes("z")},
		{Id: id(8, lastSeq), Reads: reads("z"), Writes: []api.Write{}},
		with(id(3, 256), reads(six...), nil),
		with(id(3, 65536), nil, writes(six...)),
		with(id(3, 7), reads(six...), writes(six...)),
		with(id(4, 7), reads("000000000000", longestKey), writes("b", "c", "d")),
		with(id(5, 7), reads("c", "h", "q", "x"), writes("b", "g", "p", "u", "z")),
		// The writes' keys needn't be behind the reads'.
		with(id(5, 8), reads("x", "z"), writes("a", "b")),
		with(id(6, 9), []api.Read{read("a", 0), read("b", 1), read("c", lastVer), read("d", 1<<63), read("e", 0x0102030405060708)}, nil),
		with(id(7, 1), nil, []api.Write{write("a", none), write("b", one), write("c", notANum), write("d", text("")), write("e", text(strings.Repeat("z", 40))), write("f", text("\u20AC\x00"))}),
	}
	for session := 1; session <= 8; session++ {
		for _, seq := range insideSeq {
			all = append(all, with(id(session, seq), reads("k"), writes("l")))
		}
	}
	return all
}

// misformed: transactions that aren't formed, each for one reason alone where it can be.
func misformed() []api.Txn {
	ok, seven := id(2, 5), []string{"a", "b", "c", "d", "e", "f", "g"}
	all := []api.Txn{
		{},
		{Id: ok},
		{Id: ok, Reads: []api.Read{}, Writes: []api.Write{}},
		{Reads: reads("a"), Writes: writes("a")},
		with(ok, reads(seven...), nil),
		with(ok, nil, writes(seven...)),
		with(ok, reads(seven...), writes("a")),
		with(ok, reads("a"), writes(seven...)),
		with(ok, slices.Repeat(reads("a"), 256), nil),
		with(ok, nil, slices.Repeat(writes("a"), 257)),
	}
	for _, session := range outsideSession {
		all = append(all, with(id(session, 5), reads("a"), writes("a")))
	}
	for _, seq := range outsideSeq {
		all = append(all, with(id(2, seq), reads("a"), writes("a")))
	}
	// These rise, and one of them is no key.
	for _, l := range [][]string{
		{""}, {"", "a"}, {"A"}, {"A", "a"}, {"a", "b", "~"}, {"a", "a ", "b"}, {"a\x00"}, {"\xFF"}, {"a", longestKey + "z"}, {"0000000000000"}, {"\u00E9"}, {strings.Repeat("a", 300)},
	} {
		all = append(all, with(ok, reads(l...), nil), with(ok, nil, writes(l...)), with(ok, reads(l...), writes("a")), with(ok, reads("a"), writes(l...)))
	}
	// These are keys, and don't rise, or not strictly.
	for _, l := range [][]string{
		{"b", "a"}, {"a", "a"}, {"aa", "a"}, {"a", "9"}, {"a", "b", "b"}, {"a", "a", "b"}, {"a", "c", "b"}, {"b", "a", "c"}, {"a", "b", "c", "d", "f", "e"},
	} {
		all = append(all, with(ok, reads(l...), nil), with(ok, nil, writes(l...)), with(ok, reads(l...), writes("a")), with(ok, reads("a"), writes(l...)))
	}
	for _, v := range []api.Value{
		{Kind: 5}, {Kind: 3}, {Kind: -1}, {Kind: 256}, {Bits: 1}, {Text: "a"},
		{Kind: api.Num, Text: "a"}, {Kind: api.Num, Bits: 0x7FF8000000000001},
		{Kind: api.Text, Bits: 1}, {Kind: api.Text, Text: "\xFF"}, {Kind: api.Text, Text: strings.Repeat("z", 41)},
	} {
		all = append(all,
			with(ok, nil, []api.Write{write("a", v)}),
			with(ok, reads("a"), []api.Write{write("a", v), write("b", one)}),
			with(ok, reads("a"), []api.Write{write("a", one), write("b", none), write("c", v)}))
	}
	return all
}

func clone(t api.Txn) api.Txn {
	return api.Txn{Id: t.Id, Reads: slices.Clone(t.Reads), Writes: slices.Clone(t.Writes)}
}

// alike holds two transactions against each other member by member, not by the package.
func alike(a, b api.Txn) bool {
	if a.Id != b.Id || len(a.Reads) != len(b.Reads) || len(a.Writes) != len(b.Writes) {
		return false
	}
	for i := range a.Reads {
		if a.Reads[i] != b.Reads[i] {
			return false
		}
	}
	for i := range a.Writes {
		if a.Writes[i] != b.Writes[i] {
			return false
		}
	}
	return true
}

func isZero(t api.Txn) bool {
	return t.Id == api.Id{} && len(t.Reads) == 0 && len(t.Writes) == 0
}

// home answers a key's group: from the last bound down to the first one that isn't above it.
func home(c api.Config, key string) int {
	for i := len(c.Bounds); i > 0; i-- {
		if c.Bounds[i-1] <= key {
			return i
		}
	}
	return 0
}

// big answers the n bytes of x, the most significant one first.
func big(x uint64, n int) string {
	b := make([]byte, n)
	for i := range n {
		b[n-1-i] = byte(x >> (8 * i))
	}
	return string(b)
}

// bytesOf answers a transaction's bytes as the chapter writes them, of any one whose counts have room.
func bytesOf(t api.Txn) []byte {
	s := big(uint64(t.Id.Session), 1) + big(uint64(t.Id.Seq), 4) + big(uint64(len(t.Reads)), 1)
	for _, x := range t.Reads {
		s += big(uint64(len(x.Key)), 2) + x.Key + big(x.Version, 8)
	}
	s += big(uint64(len(t.Writes)), 1)
	for _, x := range t.Writes {
		s += big(uint64(len(x.Key)), 2) + x.Key + big(uint64(x.Value.Kind), 1)
		switch x.Value.Kind {
		case api.Num:
			s += big(x.Value.Bits, 8)
		case api.Text:
			s += big(uint64(len(x.Value.Text)), 2) + x.Value.Text
		}
	}
	return []byte(s)
}

// expectAllFailed asks that a reader has failed, and that nothing is taken from it.
func expectAllFailed(t *testing.T, name string, r *code.Reader) {
	t.Helper()
	for range 2 {
		if r.OK() || r.End() || r.Left() != 0 {
			t.Errorf("%s: OK %v, End %v, Left %d", name, r.OK(), r.End(), r.Left())
		}
		if n, s, x, y := r.Take(0), r.TakeText(40), txn.TakeId(r), txn.Take(r); n != 0 || s != "" || x != (api.Id{}) || !isZero(y) {
			t.Errorf("%s: behind it: %x, %q, %+v, %+v", name, n, s, x, y)
		}
	}
}

// expectNone asks that no transaction is taken, and that the reader has failed then.
func expectNone(t *testing.T, name string, r *code.Reader) {
	t.Helper()
	if x := txn.Take(r); !isZero(x) {
		t.Errorf("%s: %+v", name, x)
	}
	expectAllFailed(t, name, r)
}

func expectNoId(t *testing.T, name string, r *code.Reader) {
	t.Helper()
	if x := txn.TakeId(r); x != (api.Id{}) {
		t.Errorf("%s: %+v", name, x)
	}
	expectAllFailed(t, name, r)
}

// expectTaken asks that x is taken, with the reader well and that many bytes left.
func expectTaken(t *testing.T, r *code.Reader, x api.Txn, left int) {
	t.Helper()
	if y := txn.Take(r); !alike(y, x) {
		t.Errorf("Take of %+v: %+v", x, y)
	}
	if !r.OK() || r.Left() != left || r.End() != (left == 0) {
		t.Errorf("Take of %+v: OK %v, End %v, Left %d, not %d", x, r.OK(), r.End(), r.Left(), left)
	}
}

// expectNothingCut asks all groups that there could be, and those that there can't.
func expectNothingCut(t *testing.T, c api.Config, x api.Txn) {
	t.Helper()
	if l := txn.Groups(c, x); len(l) != 0 {
		t.Errorf("%+v, %+v: Groups %v", c, x, l)
	}
	for _, g := range []int{0, 1, 2, 3, 4, 5, -1, -2, 255, math.MinInt, math.MaxInt} {
		if r, w := txn.Reads(c, x, g), txn.Writes(c, x, g); len(r) != 0 || len(w) != 0 {
			t.Errorf("%+v, %+v: of the group %d %v, %v", c, x, g, r, w)
		}
	}
}

// P8.1

func TestId(t *testing.T) {
	for session := 1; session <= 8; session++ {
		for _, seq := range insideSeq {
			if !txn.Id(id(session, seq)) {
				t.Errorf("%d, %d is no id", session, seq)
			}
		}
		for _, seq := range outsideSeq {
			if txn.Id(id(session, seq)) {
				t.Errorf("%d, %d is an id", session, seq)
			}
		}
	}
	for _, session := range outsideSession {
		for _, seq := range append(slices.Clone(insideSeq), outsideSeq...) {
			if txn.Id(id(session, seq)) {
				t.Errorf("%d, %d is an id", session, seq)
			}
		}
	}
}

func TestLess(t *testing.T) {
	sessions := append([]int{1, 2, 3, 4, 5, 6, 7, 8}, outsideSession...)
	seqs := append(slices.Clone(insideSeq), outsideSeq...)
	slices.Sort(sessions)
	slices.Sort(seqs)
	var list []api.Id
	for _, session := range sessions {
		for _, seq := range seqs {
			list = append(list, id(session, seq))
		}
	}
	for i, a := range list {
		for j, b := range list {
			if got := txn.Less(a, b); got != (i < j) {
				t.Errorf("Less(%+v, %+v) = %v", a, b, got)
			}
		}
	}
}

func TestLessOfWrittenIds(t *testing.T) {
	for _, c := range []struct {
		a, b api.Id
		want bool
	}{
		{id(1, 9), id(2, 1), true}, {id(2, 1), id(1, 9), false},
		{id(2, 1), id(2, 2), true}, {id(2, 2), id(2, 1), false}, {id(2, 2), id(2, 2), false},
		{id(0, 0), id(1, 1), true}, {id(0, 0), id(0, 0), false}, {id(-1, 5), id(0, 0), true},
		// The difference of these wraps round.
		{id(math.MinInt, 0), id(math.MaxInt, 0), true}, {id(math.MaxInt, 0), id(math.MinInt, 0), false},
		{id(1, math.MinInt), id(1, math.MaxInt), true}, {id(1, math.MaxInt), id(1, math.MinInt), false},
	} {
		if got := txn.Less(c.a, c.b); got != c.want {
			t.Errorf("Less(%+v, %+v) = %v", c.a, c.b, got)
		}
	}
}

func TestFormed(t *testing.T) {
	for _, x := range formed() {
		if !txn.Formed(x) {
			t.Errorf("%+v isn't formed", x)
		}
	}
	for _, x := range misformed() {
		if txn.Formed(x) {
			t.Errorf("%+v is formed", x)
		}
	}
}

func TestFormedOfEachCount(t *testing.T) {
	keys := []string{"a", "b", "c", "d", "e", "f", "g", "h"}
	for r := range 9 {
		for w := range 9 {
			x := with(id(1, 1), reads(keys[:r]...), writes(keys[:w]...))
			if got := txn.Formed(x); got != (r <= 6 && w <= 6 && r+w >= 1) {
				t.Errorf("of %d reads and %d writes: %v", r, w, got)
			}
		}
	}
}

func TestFormedOfManyMembers(t *testing.T) {
	x := with(id(1, 1), make([]api.Read, 1000000), make([]api.Write, 1000000))
	if txn.Formed(x) || len(txn.Put(nil, x)) != 0 || !txn.Same(x, x) {
		t.Error("of a million")
	}
}

func TestSame(t *testing.T) {
	list := append(formed(), misformed()...)
	for _, a := range list {
		if !txn.Same(a, clone(a)) {
			t.Errorf("%+v isn't the same as itself", a)
		}
		for _, b := range list {
			if got := txn.Same(a, b); got != alike(a, b) {
				t.Errorf("Same(%+v, %+v) = %v", a, b, got)
			}
		}
	}
}

func TestSameAsksAllOfBoth(t *testing.T) {
	whole := func() api.Txn {
		return with(id(2, 5), []api.Read{read("a", 3), read("z", 4)}, []api.Write{write("a", text("v")), write("b", one)})
	}
	for name, turn := range map[string]func(*api.Txn){
		"session":        func(x *api.Txn) { x.Id.Session++ },
		"seq":            func(x *api.Txn) { x.Id.Seq++ },
		"a read's key":   func(x *api.Txn) { x.Reads[1].Key = "y" },
		"a version":      func(x *api.Txn) { x.Reads[1].Version++ },
		"a high version": func(x *api.Txn) { x.Reads[0].Version += 1 << 32 },
		"a write's key":  func(x *api.Txn) { x.Writes[1].Key = "c" },
		"a kind":         func(x *api.Txn) { x.Writes[1].Value.Kind = 0 },
		"bits":           func(x *api.Txn) { x.Writes[1].Value.Bits++ },
		"a text":         func(x *api.Txn) { x.Writes[0].Value.Text = "w" },
		"no reads":       func(x *api.Txn) { x.Reads = nil },
		"no writes":      func(x *api.Txn) { x.Writes = nil },
		"fewer reads":    func(x *api.Txn) { x.Reads = x.Reads[:1] },
		"fewer writes":   func(x *api.Txn) { x.Writes = x.Writes[:1] },
		"one read more":  func(x *api.Txn) { x.Reads = append(x.Reads, api.Read{}) },
		"one write more": func(x *api.Txn) { x.Writes = append(x.Writes, api.Write{}) },
		"turned reads":   func(x *api.Txn) { slices.Reverse(x.Reads) },
		"turned writes":  func(x *api.Txn) { slices.Reverse(x.Writes) },
	} {
		x := whole()
		turn(&x)
		if txn.Same(x, whole()) || txn.Same(whole(), x) {
			t.Errorf("another %s, and the same", name)
		}
	}
	if !txn.Same(whole(), whole()) {
		t.Error("two alike aren't the same")
	}
}

func TestSameOfNilAndEmptyLists(t *testing.T) {
	a := api.Txn{Id: id(1, 1)}
	b := api.Txn{Id: id(1, 1), Reads: []api.Read{}, Writes: make([]api.Write, 0, 5)}
	if !txn.Same(a, b) || !txn.Same(b, a) || !txn.Same(api.Txn{}, api.Txn{Reads: []api.Read{}}) {
		t.Error("nil and empty lists aren't the same")
	}
}

func TestGroupsOfWrittenTransactions(t *testing.T) {
	two, four := conf([]int{1, 3}, "g"), conf([]int{1, 3, 1, 5}, "g", "p", "u")
	for _, c := range []struct {
		c    api.Config
		r, w []string
		want []int
	}{
		{two, []string{"a", "z"}, nil, []int{0, 1}},
		{two, nil, []string{"a", "z"}, []int{0, 1}},
		{two, []string{"z"}, []string{"a"}, []int{0, 1}},
		{two, []string{"a"}, []string{"z"}, []int{0, 1}},
		{two, []string{"a", "b"}, []string{"a", "fzz"}, []int{0}},
		{two, []string{"g"}, []string{"h"}, []int{1}},
		{two, nil, []string{"f"}, []int{0}},
		{four, []string{"q", "z"}, []string{"a"}, []int{0, 2, 3}},
		{four, []string{"u"}, []string{"a", "g", "p"}, []int{0, 1, 2, 3}},
		{four, []string{"h", "z"}, []string{"i", "x"}, []int{1, 3}},
		{four, []string{longestKey}, nil, []int{3}},
		{conf([]int{3}), []string{"a", "z"}, []string{"0"}, []int{0}},
	} {
		x := with(id(1, 1), reads(c.r...), writes(c.w...))
		if l := txn.Groups(c.c, x); !slices.Equal(l, c.want) {
			t.Errorf("%+v: Groups of %q and %q: %v, not %v", c.c, c.r, c.w, l, c.want)
		}
	}
}

func TestReadsAndWritesOfWrittenTransactions(t *testing.T) {
	c := conf([]int{1, 3, 1}, "g", "p")
	r := []api.Read{read("a", 1), read("f", 2), read("g", 3), read("o", 4), read("p", 5), read("z", lastVer)}
	w := []api.Write{write("b", none), write("c", one), write("oz", text("x")), write("p0", notANum), write("q", text("")), write("r", none)}
	x := with(id(1, 1), r, w)
	for g, at := range [][2]int{{0, 2}, {2, 4}, {4, 6}} {
		if l := txn.Reads(c, x, g); !slices.Equal(l, r[at[0]:at[1]]) {
			t.Errorf("Reads of %d: %v", g, l)
		}
	}
	for g, at := range [][2]int{{0, 2}, {2, 3}, {3, 6}} {
		if l := txn.Writes(c, x, g); !slices.Equal(l, w[at[0]:at[1]]) {
			t.Errorf("Writes of %d: %v", g, l)
		}
	}
	for _, g := range []int{3, 4, -1, -2, 99, 256, 1 << 32, math.MinInt, math.MaxInt} {
		if l, m := txn.Reads(c, x, g), txn.Writes(c, x, g); len(l) != 0 || len(m) != 0 {
			t.Errorf("of %d: %v, %v", g, l, m)
		}
	}
	// One list alone may have none of a group's keys.
	x = with(id(1, 1), r[:2], w[3:])
	if l, m := txn.Reads(c, x, 2), txn.Writes(c, x, 0); len(l) != 0 || len(m) != 0 {
		t.Errorf("%v, %v", l, m)
	}
}

func TestNothingIsCutOfWhatIsntFormed(t *testing.T) {
	for _, c := range append(configs(), misformedConfigs()...) {
		for _, x := range misformed() {
			expectNothingCut(t, c, x)
		}
	}
	for _, c := range misformedConfigs() {
		for _, x := range formed() {
			expectNothingCut(t, c, x)
		}
	}
}

func TestWhatIsCutIsNewMemory(t *testing.T) {
	c := conf([]int{3})
	x := with(id(1, 1), reads("a", "b", "c"), writes("a", "b", "c"))
	want := clone(x)
	r, w, g := txn.Reads(c, x, 0), txn.Writes(c, x, 0), txn.Groups(c, x)
	for i := range 3 {
		r[i], w[i] = read("spoiled", 9), write("spoiled", none)
	}
	g[0] = 77
	_, _ = append(r, read("more", 1)), append(w, write("more", none))
	if !alike(x, want) || !slices.Equal(txn.Reads(c, x, 0), want.Reads) || !slices.Equal(txn.Writes(c, x, 0), want.Writes) || !slices.Equal(txn.Groups(c, x), []int{0}) {
		t.Errorf("%+v", x)
	}
	r = txn.Reads(c, x, 0)
	x.Reads[0] = read("spoiled", 9)
	if !slices.Equal(r, want.Reads) {
		t.Errorf("%+v", r)
	}
}

// TestArgumentsAreLeft hands in lists with spare room.
func TestArgumentsAreLeft(t *testing.T) {
	r, w := reads("a", "b", "h", "spare", "room"), writes("c", "i", "spare", "room")
	replicas, bounds, room := []int{3, 1, 99}, []string{"g", "spare"}, bytes.Repeat([]byte{0xEE}, 200)
	wantR, wantW, wantRoom := slices.Clone(r), slices.Clone(w), bytes.Clone(room)
	c, x := conf(replicas[:2], bounds[:1]...), with(id(2, 5), r[:3], w[:2])
	txn.Formed(x)
	txn.Groups(c, x)
	for g := range 3 {
		txn.Reads(c, x, g)
		txn.Writes(c, x, g)
	}
	txn.PutId(room[:3], x.Id)
	txn.PutId(room[:3], api.Id{})
	txn.Put(room[:3], x)
	txn.Put(room[:3], api.Txn{})
	txn.Same(x, x)
	if !slices.Equal(r, wantR) || !slices.Equal(w, wantW) || !bytes.Equal(room, wantRoom) || !slices.Equal(replicas, []int{3, 1, 99}) || !slices.Equal(bounds, []string{"g", "spare"}) {
		t.Errorf("%v, %v, %x, %v, %q", r, w, room, replicas, bounds)
	}
}

// P8.2

func TestPutIdAndTakeId(t *testing.T) {
	for session := 1; session <= 8; session++ {
		for _, seq := range insideSeq {
			x := id(session, seq)
			for _, b := range [][]byte{nil, {}, {7}, []byte("ahead of it")} {
				want := string(b) + big(uint64(session), 1) + big(uint64(seq), 4)
				if got := txn.PutId(b, x); string(got) != want {
					t.Errorf("PutId(%x, %+v) = %x, not %x", b, x, got, want)
				}
			}
			r := code.New(append(txn.PutId(nil, x), 9, 9))
			if y := txn.TakeId(r); y != x || !r.OK() || r.Left() != 2 {
				t.Errorf("TakeId of %+v: %+v, OK %v, Left %d", x, y, r.OK(), r.Left())
			}
		}
	}
}

func TestPutIdOfWrittenIds(t *testing.T) {
	for _, c := range []struct {
		x    api.Id
		want string
	}{
		{id(2, 5), "\x02\x00\x00\x00\x05"},
		{id(1, 1), "\x01\x00\x00\x00\x01"},
		{id(8, lastSeq), "\x08\x00\x10\x00\x00"},
		{id(3, 0x010203), "\x03\x00\x01\x02\x03"},
	} {
		if got := txn.PutId(nil, c.x); string(got) != c.want {
			t.Errorf("PutId of %+v: %x", c.x, got)
		}
		r := code.New([]byte(c.want))
		if x := txn.TakeId(r); x != c.x || !r.End() {
			t.Errorf("TakeId of %x: %+v", c.want, x)
		}
	}
}

func TestPutIdOfNoId(t *testing.T) {
	var list []api.Id
	for _, session := range outsideSession {
		list = append(list, id(session, 5))
	}
	for _, seq := range outsideSeq {
		list = append(list, id(2, seq))
	}
	for _, x := range list {
		for _, b := range []string{"", "\x07", "ahead of it"} {
			if got := txn.PutId([]byte(b), x); string(got) != b {
				t.Errorf("PutId(%q, %+v) = %x", b, x, got)
			}
		}
	}
	if got := txn.PutId(nil, api.Id{}); len(got) != 0 {
		t.Errorf("%x", got)
	}
}

func TestTakeIdOfNone(t *testing.T) {
	for session := range 256 {
		b := []byte(big(uint64(session), 1) + "\x00\x00\x00\x05\x01")
		if session < 1 || session > 8 {
			expectNoId(t, fmt.Sprintf("%x", b), code.New(b))
		} else if x := txn.TakeId(code.New(b)); x != id(session, 5) {
			t.Errorf("%x: %+v", b, x)
		}
	}
	for _, seq := range []uint64{0, lastSeq + 1, 1 << 21, 1 << 24, 1<<24 + 1, 1<<31 - 1, 1 << 31, 1<<32 - 1} {
		b := []byte("\x02" + big(seq, 4) + "\x01")
		expectNoId(t, fmt.Sprintf("%x", b), code.New(b))
		expectNoId(t, fmt.Sprintf("%x, to the end", b[:5]), code.New(b[:5]))
	}
	whole := []byte{2, 0, 1, 2, 3}
	for n := range whole {
		expectNoId(t, fmt.Sprintf("%x", whole[:n]), code.New(whole[:n]))
	}
}

func TestPut(t *testing.T) {
	for _, x := range formed() {
		for _, b := range [][]byte{nil, {}, {7}, []byte("ahead of it")} {
			want := append(bytes.Clone(b), bytesOf(x)...)
			if got := txn.Put(b, x); !bytes.Equal(got, want) {
				t.Errorf("Put(%x, %+v) = %x, not %x", b, x, got, want)
			}
		}
	}
	for _, x := range misformed() {
		for _, b := range [][]byte{nil, {}, {7}, []byte("ahead of it")} {
			if got := txn.Put(b, x); !bytes.Equal(got, b) {
				t.Errorf("Put(%x, %+v) = %x", b, x, got)
			}
		}
	}
}

// written: transactions and their bytes, byte by byte.
var written = []struct {
	x     api.Txn
	bytes string
}{
	{with(id(2, 5), []api.Read{read("a", 3), read("z", 0)}, []api.Write{write("a", text("v"))}),
		"\x02\x00\x00\x00\x05" + "\x02" + "\x00\x01a\x00\x00\x00\x00\x00\x00\x00\x03" + "\x00\x01z\x00\x00\x00\x00\x00\x00\x00\x00" + "\x01" + "\x00\x01a\x02\x00\x01v"},
	{with(id(1, 256), []api.Read{read("k9", 0x0102030405060708)}, nil),
		"\x01\x00\x00\x01\x00" + "\x01" + "\x00\x02k9\x01\x02\x03\x04\x05\x06\x07\x08" + "\x00"},
	{with(id(8, lastSeq), nil, []api.Write{write("a", none), write("b", one), write("c", text(""))}),
		"\x08\x00\x10\x00\x00" + "\x00" + "\x03" + "\x00\x01a\x00" + "\x00\x01b\x01\x3F\xF0\x00\x00\x00\x00\x00\x00" + "\x00\x01c\x02\x00\x00"},
}

func TestPutAndTakeOfWrittenTransactions(t *testing.T) {
	for _, c := range written {
		if got := txn.Put(nil, c.x); string(got) != c.bytes {
			t.Errorf("Put of %+v: %x", c.x, got)
		}
		expectTaken(t, code.New([]byte(c.bytes)), c.x, 0)
	}
}

func TestPutIsNewMemory(t *testing.T) {
	x, y := formed()[0], formed()[1]
	for _, put := range []func([]byte, int) []byte{
		func(b []byte, n int) []byte { return txn.Put(b, []api.Txn{x, y, {}}[n]) },
		func(b []byte, n int) []byte { return txn.PutId(b, []api.Id{x.Id, y.Id, {}}[n]) },
	} {
		room := bytes.Repeat([]byte{0xEE}, 256)
		before := bytes.Clone(room)
		all := [][]byte{put(room[:3], 0), put(room[:3], 1), put(room[:3], 2), put(room[:3], 2)}
		var kept [][]byte
		for _, out := range all {
			kept = append(kept, bytes.Clone(out))
		}
		for i, out := range all {
			_ = append(out, "more"...)
			for j := range out {
				out[j] = 0xDD
			}
			if !bytes.Equal(room, before) {
				t.Errorf("what was handed in is %x", room)
			}
			for k := i + 1; k < len(all); k++ {
				if !bytes.Equal(all[k], kept[k]) {
					t.Errorf("an answer's bytes are another one's too")
				}
			}
		}
	}
}

func TestTake(t *testing.T) {
	for _, x := range formed() {
		for _, behind := range []string{"", "\x00", "\x05", "behind it"} {
			expectTaken(t, code.New(append(bytesOf(x), behind...)), x, len(behind))
		}
	}
}

// TestTakeOfBytesOfNone lays out the bytes of transactions that aren't formed.
func TestTakeOfBytesOfNone(t *testing.T) {
	for _, x := range misformed() {
		// Where a number has more than its bytes, what is laid out may be another transaction's.
		if y := taken(bytesOf(x)); y != nil {
			if len(x.Reads) < 256 && len(x.Writes) < 256 && x.Id.Session == int(byte(x.Id.Session)) && x.Id.Seq == int(uint32(x.Id.Seq)) && kindsHaveRoom(x) {
				t.Errorf("%+v: %+v is taken", x, *y)
			}
			continue
		}
		b := bytesOf(x)
		expectNone(t, fmt.Sprintf("%+v", x), code.New(b))
		expectNone(t, fmt.Sprintf("%+v, others behind", x), code.New(append(b, make([]byte, 300)...)))
	}
}

// kindsHaveRoom answers whether the bytes of x tell all of its values.
func kindsHaveRoom(x api.Txn) bool {
	for _, w := range x.Writes {
		v := w.Value
		if v.Kind != int(byte(v.Kind)) || v.Kind != api.Num && v.Bits != 0 || v.Kind != api.Text && v.Text != "" {
			return false
		}
	}
	return true
}

// taken answers the transaction at the beginning of b, by other means than the package's; nil, if there is none.
func taken(b []byte) *api.Txn {
	var x api.Txn
	ok := true
	next := func(n int) []byte {
		if n > len(b) {
			ok, b = false, nil
			return make([]byte, n)
		}
		head := b[:n]
		b = b[n:]
		return head
	}
	number := func(n int) uint64 {
		var sum uint64
		for _, c := range next(n) {
			sum = sum*256 + uint64(c)
		}
		return sum
	}
	word := func() string { return string(next(int(number(2)))) }
	x.Id.Session, x.Id.Seq = int(number(1)), int(number(4))
	for range number(1) {
		key := word()
		x.Reads = append(x.Reads, read(key, number(8)))
	}
	for range number(1) {
		w := write(word(), api.Value{Kind: int(number(1))})
		switch w.Value.Kind {
		case 1:
			w.Value.Bits = number(8)
		case 2:
			w.Value.Text = word()
		}
		x.Writes = append(x.Writes, w)
	}
	if !ok || !isFormed(x) {
		return nil
	}
	return &x
}

func isKey(s string) bool {
	return len(s) >= 1 && len(s) <= 12 && strings.Trim(s, "abcdefghijklmnopqrstuvwxyz0123456789") == ""
}

func isValue(v api.Value) bool {
	switch v.Kind {
	case 0:
		return v == none
	case 1:
		return v.Text == "" && (v.Bits<<1 <= 0xFFE0000000000000 || v.Bits == notANum.Bits)
	}
	return v.Kind == 2 && v.Bits == 0 && len(v.Text) <= 40 && utf8.ValidString(v.Text)
}

// isFormed answers whether x is formed, from the words of the chapter.
func isFormed(x api.Txn) bool {
	n, m := len(x.Reads), len(x.Writes)
	ok := x.Id.Session >= 1 && x.Id.Session <= 8 && x.Id.Seq >= 1 && x.Id.Seq <= 1048576 && n <= 6 && m <= 6 && n+m > 0
	for i, r := range x.Reads {
		ok = ok && isKey(r.Key) && (i == 0 || strings.Compare(x.Reads[i-1].Key, r.Key) < 0)
	}
	for i, w := range x.Writes {
		ok = ok && isKey(w.Key) && isValue(w.Value) && (i == 0 || strings.Compare(x.Writes[i-1].Key, w.Key) < 0)
	}
	return ok
}

func TestTakeOfTooFewBytes(t *testing.T) {
	for _, x := range formed() {
		b := bytesOf(x)
		for n := range len(b) {
			expectNone(t, fmt.Sprintf("%d bytes of %+v", n, x), code.New(b[:n]))
		}
	}
}

// TestTakeOfTurnedBytes sets each byte of some transactions to each other one.
func TestTakeOfTurnedBytes(t *testing.T) {
	for _, c := range written {
		for i := range len(c.bytes) {
			for turned := range 256 {
				b := append([]byte(c.bytes), "\x00\x01b\x00\x00\x00\x00"...)
				b[i] = byte(turned)
				if x := taken(b); x != nil {
					expectTaken(t, code.New(b), *x, len(b)-len(bytesOf(*x)))
				} else {
					expectNone(t, fmt.Sprintf("%x", b), code.New(b))
				}
			}
		}
	}
}

func TestTakeOfEachCount(t *testing.T) {
	keys := "abcdefghijklmnopqrstuvwxyz"
	for n := range 256 {
		var r, w string
		for i := range n {
			key := "\x00\x02" + string([]byte{keys[i/26], keys[i%26]})
			r += key + big(uint64(i), 8)
			w += key + "\x00"
		}
		count := big(uint64(n), 1)
		for _, b := range []string{"\x02\x00\x00\x00\x05" + count + r + "\x01\x00\x01a\x00", "\x02\x00\x00\x00\x05\x01\x00\x01a" + big(0, 8) + count + w} {
			if n > 6 {
				expectNone(t, fmt.Sprintf("%d members", n), code.New([]byte(b)))
				continue
			}
			rd := code.New([]byte(b))
			if x := txn.Take(rd); len(x.Reads)+len(x.Writes) != n+1 || !rd.End() {
				t.Errorf("%d members: %+v, End %v", n, x, rd.End())
			}
		}
	}
}

func TestTakeBehindOthers(t *testing.T) {
	for _, c := range written {
		for _, bad := range []string{"", "\x02", "\x02\x00\x00\x00\x05", "\x02\x00\x00\x00\x05\x00\x00", "\x00\x00\x00\x00\x00\x00\x00\x00"} {
			r := code.New([]byte("\x00\x02ab" + c.bytes + bad))
			if s := r.TakeText(2); s != "ab" {
				t.Errorf("ahead of it: %q", s)
			}
			expectTaken(t, r, c.x, len(bad))
			expectNone(t, fmt.Sprintf("%x, behind others", bad), r)
		}
	}
}

func TestTakeOfNilAndFailedReaders(t *testing.T) {
	var nobody *code.Reader
	expectNone(t, "nil", nobody)
	expectNoId(t, "nil", nobody)
	for _, x := range formed() {
		r, s := code.New(bytesOf(x)), code.New(bytesOf(x))
		r.Take(9)
		s.Take(9)
		expectNone(t, "failed ahead of it", r)
		expectNoId(t, "failed ahead of it", s)
	}
}

func TestTakeIsNewMemory(t *testing.T) {
	b := []byte(written[0].bytes)
	r := code.New(b)
	first, second := txn.Take(r), txn.Take(code.New(b))
	first.Reads[0], first.Writes[0] = read("spoiled", 9), write("spoiled", none)
	for i := range b {
		b[i] = 0xFF
	}
	if !alike(second, written[0].x) {
		t.Errorf("%+v", second)
	}
}

// P8.3

func TestEachReadAndWriteIsInOneGroups(t *testing.T) {
	for _, c := range configs() {
		for _, x := range formed() {
			// Groups of rising keys don't fall, so the groups' parts one behind the other are the whole again.
			var joined api.Txn
			joined.Id = x.Id
			var busy []int
			for g := range len(c.Replicas) {
				r, w := txn.Reads(c, x, g), txn.Writes(c, x, g)
				for _, y := range r {
					if home(c, y.Key) != g {
						t.Errorf("%+v: the read %+v is in %d's", c, y, g)
					}
				}
				for _, y := range w {
					if home(c, y.Key) != g {
						t.Errorf("%+v: the write %+v is in %d's", c, y, g)
					}
				}
				if len(r)+len(w) > 0 {
					busy = append(busy, g)
				}
				joined.Reads, joined.Writes = append(joined.Reads, r...), append(joined.Writes, w...)
			}
			if !alike(joined, x) {
				t.Errorf("%+v: %+v was %+v", c, joined, x)
			}
			if l := txn.Groups(c, x); !slices.Equal(l, busy) {
				t.Errorf("%+v, %+v: Groups %v, and %v have some", c, x, l, busy)
			}
			for _, g := range []int{-1, len(c.Replicas), len(c.Replicas) + 1, 256, math.MinInt, math.MaxInt} {
				if r, w := txn.Reads(c, x, g), txn.Writes(c, x, g); len(r)+len(w) > 0 {
					t.Errorf("%+v: of the group %d %v, %v", c, g, r, w)
				}
			}
		}
	}
}

func TestWhatIsPutIsTaken(t *testing.T) {
	var b []byte
	for _, x := range formed() {
		b = txn.PutId(txn.Put(b, x), x.Id)
	}
	r := code.New(b)
	left := len(b)
	for _, x := range formed() {
		left -= len(bytesOf(x))
		expectTaken(t, r, x, left)
		left -= 5
		if y := txn.TakeId(r); y != x.Id || r.Left() != left {
			t.Errorf("the id %+v: %+v, Left %d", x.Id, y, r.Left())
		}
	}
	if !r.End() {
		t.Errorf("OK %v, Left %d", r.OK(), r.Left())
	}
}

func FuzzTakeOfAnyBytes(f *testing.F) {
	for _, x := range formed() {
		f.Add(append(bytesOf(x), 7))
	}
	for _, x := range misformed() {
		if len(x.Reads) < 10 && len(x.Writes) < 10 {
			f.Add(bytesOf(x))
		}
	}
	f.Fuzz(func(t *testing.T, b []byte) {
		r := code.New(b)
		want := taken(b)
		if want == nil {
			expectNone(t, fmt.Sprintf("%x", b), r)
			return
		}
		n := len(bytesOf(*want))
		expectTaken(t, r, *want, len(b)-n)
		if !txn.Formed(*want) || !bytes.Equal(txn.Put(nil, *want), b[:n]) {
			t.Errorf("%+v: %x, not %x", *want, txn.Put(nil, *want), b[:n])
		}
	})
}

// members answers a read and a write for each of the keys in a text, with one comma between two.
func members(keys string, version uint64, v api.Value) ([]api.Read, []api.Write) {
	var r []api.Read
	var w []api.Write
	if keys == "" {
		return nil, nil
	}
	for i, key := range strings.Split(keys, ",") {
		r = append(r, read(key, version+uint64(i)))
		w = append(w, write(key, v))
	}
	return r, w
}

func FuzzTransactions(f *testing.F) {
	f.Add(2, 5, "a,z", uint64(3), "a", 2, uint64(0), "v", "g", 1)
	f.Add(8, lastSeq, "", uint64(0), "a,b,c,d,e,f", 1, uint64(0), "", "c", 0)
	f.Add(9, 0, "b,a", lastVer, "a,a", 5, uint64(1), "\xFF", "G", -1)
	f.Add(1, 1, "a,b,c,d,e,f,g", lastVer, "", 0, uint64(0), "", "", -1)
	f.Fuzz(func(t *testing.T, session, seq int, readKeys string, version uint64, writeKeys string, kind int, bits uint64, s, bound string, group int) {
		r, _ := members(readKeys, version, none)
		_, w := members(writeKeys, 0, api.Value{Kind: kind, Bits: bits, Text: s})
		x := with(id(session, seq), r, w)
		before := clone(x)
		c := conf([]int{3, 1}, bound)
		if txn.Formed(x) != isFormed(x) {
			t.Fatalf("Formed(%+v) = %v", x, !isFormed(x))
		}
		if !isFormed(x) || !isKey(bound) {
			expectNothingCut(t, c, x)
		} else {
			cut := func(y api.Read) bool { return home(c, y.Key) != group }
			if l := txn.Reads(c, x, group); !slices.Equal(l, slices.DeleteFunc(slices.Clone(r), cut)) {
				t.Errorf("%+v, %+v: Reads of %d %v", c, x, group, l)
			}
			out := func(y api.Write) bool { return home(c, y.Key) != group }
			if l := txn.Writes(c, x, group); !slices.Equal(l, slices.DeleteFunc(slices.Clone(w), out)) {
				t.Errorf("%+v, %+v: Writes of %d %v", c, x, group, l)
			}
		}
		b := txn.Put([]byte{7}, x)
		if isFormed(x) {
			expectTaken(t, code.New(b[1:]), x, 0)
		} else if string(b) != "\x07" {
			t.Errorf("Put of %+v: %x", x, b)
		}
		if !alike(x, before) || !txn.Same(x, before) {
			t.Errorf("%+v was %+v", x, before)
		}
	})
}
