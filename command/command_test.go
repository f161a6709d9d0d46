package command_test

import (
	"bytes"
	"fmt"
	"math"
	"reflect"
	"slices"
	"testing"

	"parish/api"
	"parish/code"
	"parish/command"
	"parish/txn"
)

const (
	lastSeq   = 1048576
	lastStamp = uint64(math.MaxInt64)
)

// outsideKind, outsideGroup and outsideStamp: numbers that no formed command has; the last bytes of some are one's.
var (
	outsideKind  = []int{4, 5, 6, 127, 255, 256, 257, 258, 259, -1, -2, -255, -256, 1 << 32, 1<<32 + 1, math.MinInt, math.MinInt + 1, math.MaxInt}
	outsideGroup = []int{4, 5, 255, 256, 257, 259, -1, -2, -4, -256, 1 << 32, 1<<32 + 3, math.MinInt, math.MaxInt}
	outsideStamp = []uint64{0, lastStamp + 1, lastStamp + 2, math.MaxUint64 - 1, math.MaxUint64}
	outsideId    = []api.Id{{}, {Session: 1}, {Seq: 1}, {Session: 9, Seq: 1}, {Session: -1, Seq: 1}, {Session: 1, Seq: -1}, {Session: 1, Seq: lastSeq + 1}, {Session: 257, Seq: 1}, {Session: 1, Seq: 1<<32 + 1}}
)

// insideStamp: the stamps at the edges, and those at which the bytes carry.
var insideStamp = []uint64{1, 2, 7, 255, 256, 65536, 1 << 32, 0x0102030405060708, lastStamp - 1, lastStamp}

func id(session, seq int) api.Id {
	return api.Id{Session: session, Seq: seq}
}

func begin(t api.Txn) command.Command {
	return command.Command{Kind: 1, Txn: t}
}

func stamp(x api.Id, group int, n uint64) command.Command {
	return command.Command{Kind: 2, Id: x, Group: group, Stamp: n}
}

func vote(x api.Id, group int, yes bool) command.Command {
	return command.Command{Kind: 3, Id: x, Group: group, Yes: yes}
}

// txns: formed transactions, some with lists that are empty, not nil.
func txns() []api.Txn {
	read := api.Read{Key: "a", Version: 3}
	text := api.Value{Kind: api.Text, Text: "v"}
	six := api.Txn{Id: id(3, 256)}
	for _, key := range []string{"0", "9", "a", "a0", "aa", "zzzzzzzzzzzz"} {
		six.Reads = append(six.Reads, api.Read{Key: key, Version: math.MaxUint64})
		six.Writes = append(six.Writes, api.Write{Key: key, Value: text})
	}
	return []api.Txn{
		{Id: id(1, 2), Reads: []api.Read{{Key: "a"}}},
		{Id: id(1, 2), Reads: []api.Read{read}, Writes: []api.Write{}},
		{Id: id(8, lastSeq), Writes: []api.Write{{Key: "z"}}},
		{Id: id(8, lastSeq), Reads: []api.Read{}, Writes: []api.Write{{Key: "z", Value: text}}},
		{Id: id(2, 5), Reads: []api.Read{read, {Key: "z"}}, Writes: []api.Write{{Key: "a", Value: text}}},
		six,
	}
}

// misformedTxns: transactions that aren't formed, each for one reason.
func misformedTxns() []api.Txn {
	ok, one := id(2, 5), []api.Read{{Key: "a"}}
	all := []api.Txn{
		{},
		{Id: ok},
		{Id: ok, Reads: []api.Read{}, Writes: []api.Write{}},
		{Id: ok, Reads: []api.Read{{Key: "A"}}},
		{Id: ok, Reads: []api.Read{{Key: "b"}, {Key: "a"}}},
		{Id: ok, Reads: slices.Repeat(one, 7)},
		{Id: ok, Writes: []api.Write{{Key: "a", Value: api.Value{Kind: 5}}}},
		{Id: ok, Writes: []api.Write{{Key: "a", Value: api.Value{Kind: api.Text, Text: "\xFF"}}}},
	}
	for _, x := range outsideId {
		all = append(all, api.Txn{Id: x, Reads: one})
	}
	return all
}

// formed: commands of all kinds, at the edges of what is formed.
func formed() []command.Command {
	all := []command.Command{{}, {Txn: api.Txn{Reads: []api.Read{}, Writes: []api.Write{}}}}
	for _, t := range txns() {
		all = append(all, begin(t))
	}
	for _, x := range []api.Id{id(1, 1), id(1, 2), id(8, 1), id(8, lastSeq), id(5, 65536)} {
		for group := range 4 {
			for _, n := range insideStamp {
				all = append(all, stamp(x, group, n))
			}
			all = append(all, vote(x, group, true), vote(x, group, false))
		}
	}
	return all
}

// extras: for each field but the kind, ways to set it to what isn't zero.
func extras() map[string][]func(x *command.Command) {
	return map[string][]func(x *command.Command){
		"Txn": {
			func(x *command.Command) { x.Txn.Id.Session = 1 },
			func(x *command.Command) { x.Txn.Id.Seq = 1 },
			func(x *command.Command) { x.Txn.Reads = []api.Read{{}} },
			func(x *command.Command) { x.Txn.Writes = []api.Write{{}} },
			func(x *command.Command) { x.Txn = txns()[0] },
		},
		"Id": {
			func(x *command.Command) { x.Id.Session = 1 },
			func(x *command.Command) { x.Id.Seq = 1 },
			func(x *command.Command) { x.Id = id(1, 2) },
		},
		"Group": {
			func(x *command.Command) { x.Group = 1 },
			func(x *command.Command) { x.Group = -1 },
			func(x *command.Command) { x.Group = 256 },
		},
		"Stamp": {
			func(x *command.Command) { x.Stamp = 1 },
			func(x *command.Command) { x.Stamp = math.MaxUint64 },
		},
		"Yes": {
			func(x *command.Command) { x.Yes = true },
		},
	}
}

// unnamed: which fields a kind doesn't name.
var unnamed = [][]string{
	{"Txn", "Id", "Group", "Stamp", "Yes"},
	{"Id", "Group", "Stamp", "Yes"},
	{"Txn", "Yes"},
	{"Txn", "Stamp"},
}

// overfull: formed commands with one field more than their kind names.
func overfull() []command.Command {
	var all []command.Command
	for _, x := range formed() {
		for _, field := range unnamed[x.Kind] {
			for _, set := range extras()[field] {
				y := clone(x)
				set(&y)
				all = append(all, y)
			}
		}
	}
	return all
}

// untrue: commands whose own fields aren't well, and nothing beside them is set.
func untrue() []command.Command {
	ok := id(1, 2)
	var all []command.Command
	for _, kind := range outsideKind {
		all = append(all,
			command.Command{Kind: kind},
			command.Command{Kind: kind, Txn: txns()[0]},
			command.Command{Kind: kind, Id: ok, Group: 1, Stamp: 1},
			command.Command{Kind: kind, Id: ok, Group: 1, Yes: true})
	}
	for _, t := range misformedTxns() {
		all = append(all, begin(t))
	}
	for _, x := range outsideId {
		all = append(all, stamp(x, 1, 7), vote(x, 1, true), vote(x, 0, false))
	}
	for _, group := range outsideGroup {
		all = append(all, stamp(ok, group, 7), vote(ok, group, true), vote(ok, group, false))
	}
	for _, n := range outsideStamp {
		all = append(all, stamp(ok, 0, n), stamp(ok, 3, n))
	}
	return all
}

func misformed() []command.Command {
	return append(untrue(), overfull()...)
}

func clone(x command.Command) command.Command {
	x.Txn.Reads, x.Txn.Writes = slices.Clone(x.Txn.Reads), slices.Clone(x.Txn.Writes)
	return x
}

// alike holds two commands against each other field by field, not by the package.
func alike(a, b command.Command) bool {
	for _, x := range []*command.Command{&a, &b} {
		if len(x.Txn.Reads) == 0 {
			x.Txn.Reads = nil
		}
		if len(x.Txn.Writes) == 0 {
			x.Txn.Writes = nil
		}
	}
	return reflect.DeepEqual(a, b)
}

// big answers the n bytes of x, the most significant one first.
func big(x uint64, n int) string {
	b := make([]byte, n)
	for i := range n {
		b[n-1-i] = byte(x >> (8 * i))
	}
	return string(b)
}

// bytesOf answers a command's bytes as the chapter writes them, of one that isn't formed too; but of a Begin's transaction by layer 8.
func bytesOf(x command.Command) []byte {
	s := big(uint64(x.Kind), 1)
	source := big(uint64(x.Id.Session), 1) + big(uint64(x.Id.Seq), 4) + big(uint64(x.Group), 1)
	switch x.Kind {
	case 1:
		s += string(txn.Put(nil, x.Txn))
	case 2:
		s += source + big(x.Stamp, 8)
	case 3:
		yes := uint64(0)
		if x.Yes {
			yes = 1
		}
		s += source + big(yes, 1)
	}
	return []byte(s)
}

// expectNone asks that Noop is taken, and that the reader has failed then, and stays so.
func expectNone(t *testing.T, name string, r *code.Reader) {
	t.Helper()
	for range 2 {
		if x := command.Take(r); !alike(x, command.Command{}) {
			t.Errorf("%s: %+v", name, x)
		}
		if r.OK() || r.End() || r.Left() != 0 || r.Take(0) != 0 || r.TakeText(40) != "" {
			t.Errorf("%s: OK %v, End %v, Left %d", name, r.OK(), r.End(), r.Left())
		}
	}
}

// expectTaken asks that x is taken, with the reader well and that many bytes left.
func expectTaken(t *testing.T, r *code.Reader, x command.Command, left int) {
	t.Helper()
	if y := command.Take(r); !alike(y, x) {
		t.Errorf("Take of %+v: %+v", x, y)
	}
	if !r.OK() || r.Left() != left || r.End() != (left == 0) {
		t.Errorf("Take of %+v: OK %v, End %v, Left %d, not %d", x, r.OK(), r.End(), r.Left(), left)
	}
}

// P9.1

func TestKinds(t *testing.T) {
	if got := [...]int{command.Noop, command.Begin, command.Stamp, command.Vote}; got != [...]int{0, 1, 2, 3} {
		t.Errorf("%v", got)
	}
}

func TestFormed(t *testing.T) {
	for _, x := range formed() {
		if !command.Formed(x) {
			t.Errorf("%+v isn't formed", x)
		}
	}
	for _, x := range misformed() {
		if command.Formed(x) {
			t.Errorf("%+v is formed", x)
		}
	}
}

func TestLabel(t *testing.T) {
	for _, x := range append(formed(), misformed()...) {
		want := api.Id{}
		if x.Kind == 1 {
			want = x.Txn.Id
		}
		if x.Kind == 2 || x.Kind == 3 {
			want = x.Id
		}
		if got := command.Label(x); got != want {
			t.Errorf("%+v: %+v, not %+v", x, got, want)
		}
	}
}

// TestLabelByTheKindAlone gives two ids to one command.
func TestLabelByTheKindAlone(t *testing.T) {
	none, inside, outside := api.Id{}, id(3, 4), id(-5, math.MaxInt)
	for kind, want := range map[int]api.Id{0: none, 1: inside, 2: outside, 3: outside, 4: none, -1: none, 257: none, math.MinInt: none} {
		x := command.Command{Kind: kind, Txn: api.Txn{Id: inside}, Id: outside}
		if got := command.Label(x); got != want {
			t.Errorf("%+v: %+v, not %+v", x, got, want)
		}
	}
}

func TestSameOfOneFieldTurned(t *testing.T) {
	bases := append(formed()[:12], vote(id(1, 2), 3, true), stamp(id(-1, 0), -7, 0), command.Command{Kind: 9, Txn: txns()[4], Id: id(1, 1), Group: 2, Stamp: 3, Yes: true})
	for _, x := range bases {
		if !command.Same(x, clone(x)) {
			t.Errorf("%+v isn't as itself", x)
		}
		turned := []command.Command{clone(x), clone(x), clone(x), clone(x), clone(x), clone(x), clone(x), clone(x), clone(x)}
		turned[0].Kind++
		turned[1].Id.Session++
		turned[2].Id.Seq++
		turned[3].Group--
		turned[4].Stamp--
		turned[5].Yes = !x.Yes
		turned[6].Txn.Id.Seq--
		turned[7].Txn.Reads = append(turned[7].Txn.Reads, api.Read{})
		turned[8].Txn.Writes = append(turned[8].Txn.Writes, api.Write{})
		for i, y := range turned {
			if command.Same(x, y) || command.Same(y, x) {
				t.Errorf("turned at %d: %+v is as %+v", i, x, y)
			}
		}
	}
}

func TestSameOfAllPairs(t *testing.T) {
	all := append(formed(), untrue()...)
	for _, x := range all {
		for _, y := range all {
			if got := command.Same(x, y); got != alike(x, y) {
				t.Errorf("Same(%+v, %+v) = %v", x, y, got)
			}
		}
	}
}

func TestSameOfMembersOfLists(t *testing.T) {
	x := begin(txns()[4])
	turned := []command.Command{clone(x), clone(x), clone(x), clone(x), clone(x), clone(x)}
	turned[0].Txn.Reads[1].Key = "y"
	turned[1].Txn.Reads[0].Version = 4
	turned[2].Txn.Writes[0].Key = "b"
	turned[3].Txn.Writes[0].Value.Text = "w"
	turned[4].Txn.Reads[0], turned[4].Txn.Reads[1] = turned[4].Txn.Reads[1], turned[4].Txn.Reads[0]
	turned[5].Txn.Reads = turned[5].Txn.Reads[:1]
	for i, y := range turned {
		if command.Same(x, y) || command.Same(y, x) {
			t.Errorf("turned at %d: %+v is as %+v", i, x, y)
		}
	}
}

// A list of none may be nil or empty, and means the same.
func TestNilAndEmptyLists(t *testing.T) {
	for _, x := range append(formed(), untrue()...) {
		if len(x.Txn.Reads)+len(x.Txn.Writes) > 0 {
			continue
		}
		n, e := clone(x), clone(x)
		n.Txn.Reads, n.Txn.Writes = nil, nil
		e.Txn.Reads, e.Txn.Writes = make([]api.Read, 0, 3), make([]api.Write, 0, 3)
		if !command.Same(n, e) || !command.Same(e, n) || command.Formed(n) != command.Formed(e) {
			t.Errorf("%+v: Formed %v, %v", x, command.Formed(n), command.Formed(e))
		}
		if a, b := command.Put(nil, n), command.Put(nil, e); !bytes.Equal(a, b) {
			t.Errorf("%+v: %x, %x", x, a, b)
		}
	}
}

// written: commands and their bytes, byte by byte; the first two are the examples of the chapter.
var written = []struct {
	x     command.Command
	bytes string
}{
	{command.Command{}, "\x00"},
	{vote(id(1, 2), 3, true), "\x03\x01\x00\x00\x00\x02\x03\x01"},
	{vote(id(8, lastSeq), 0, false), "\x03\x08\x00\x10\x00\x00\x00\x00"},
	{stamp(id(1, 2), 1, 7), "\x02\x01\x00\x00\x00\x02\x01\x00\x00\x00\x00\x00\x00\x00\x07"},
	{stamp(id(2, 515), 3, lastStamp), "\x02\x02\x00\x00\x02\x03\x03\x7F\xFF\xFF\xFF\xFF\xFF\xFF\xFF"},
	{stamp(id(4, 1), 0, 0x0102030405060708), "\x02\x04\x00\x00\x00\x01\x00\x01\x02\x03\x04\x05\x06\x07\x08"},
	{begin(txns()[0]), "\x01" + "\x01\x00\x00\x00\x02" + "\x01" + "\x00\x01a\x00\x00\x00\x00\x00\x00\x00\x00" + "\x00"},
	{begin(txns()[4]), "\x01" + "\x02\x00\x00\x00\x05" + "\x02" + "\x00\x01a\x00\x00\x00\x00\x00\x00\x00\x03" + "\x00\x01z\x00\x00\x00\x00\x00\x00\x00\x00" + "\x01" + "\x00\x01a\x02\x00\x01v"},
}

func TestPutAndTakeOfWrittenCommands(t *testing.T) {
	for _, c := range written {
		if got := command.Put(nil, c.x); string(got) != c.bytes {
			t.Errorf("Put of %+v: %x", c.x, got)
		}
		expectTaken(t, code.New([]byte(c.bytes)), c.x, 0)
	}
}

func TestPutBehindOthers(t *testing.T) {
	for _, ahead := range []string{"", "\x00", "\x03\x01\x00", "ahead of it"} {
		for _, x := range formed() {
			if got := command.Put([]byte(ahead), x); string(got) != ahead+string(bytesOf(x)) {
				t.Errorf("Put of %+v behind %q: %x", x, ahead, got)
			}
		}
		for _, x := range misformed() {
			if got := command.Put([]byte(ahead), x); string(got) != ahead {
				t.Errorf("Put of %+v behind %q: %x", x, ahead, got)
			}
		}
	}
	if got := command.Put(nil, command.Command{Kind: 4}); len(got) != 0 {
		t.Errorf("behind nil: %x", got)
	}
}

func TestPutIsNewMemory(t *testing.T) {
	room := bytes.Repeat([]byte{0xEE}, 256)
	before := bytes.Clone(room)
	var all, kept [][]byte
	for _, x := range []command.Command{{}, begin(txns()[4]), stamp(id(1, 2), 1, 7), vote(id(1, 2), 3, true), {Kind: 4}, {Kind: 1}} {
		all = append(all, command.Put(room[:3], x), command.Put(room[:3], x))
	}
	for _, out := range all {
		kept = append(kept, bytes.Clone(out))
	}
	for i, out := range all {
		_ = append(out, "more"...)
		for j := range out {
			out[j] = 0xDD
		}
		if !bytes.Equal(room, before) {
			t.Errorf("what was handed in is %x", room)
		}
		for k := i + 1; k < len(all); k++ {
			if !bytes.Equal(all[k], kept[k]) {
				t.Errorf("an answer's bytes are another one's too")
			}
		}
	}
}

func TestArgumentsAreLeft(t *testing.T) {
	for _, x := range append(formed(), untrue()...) {
		before := clone(x)
		command.Formed(x)
		command.Label(x)
		command.Same(x, x)
		command.Put([]byte{1}, x)
		if !alike(x, before) {
			t.Errorf("%+v was %+v", x, before)
		}
	}
}

func TestTake(t *testing.T) {
	for _, x := range formed() {
		for _, behind := range []string{"", "\x00", "\x05", "behind it"} {
			expectTaken(t, code.New(append(bytesOf(x), behind...)), x, len(behind))
		}
	}
}

// taken answers the command at the beginning of b and how many bytes it has, by other means than the package's; 0, if there is none.
func taken(b []byte) (command.Command, int) {
	number := func(from, to int) uint64 {
		var sum uint64
		for _, c := range b[from:to] {
			sum = sum*256 + uint64(c)
		}
		return sum
	}
	if len(b) == 0 {
		return command.Command{}, 0
	}
	if b[0] == 0 {
		return command.Command{}, 1
	}
	if b[0] == 1 {
		r := code.New(b[1:])
		if x := txn.Take(r); r.OK() {
			return begin(x), len(b) - r.Left()
		}
		return command.Command{}, 0
	}
	lengths := map[byte]int{2: 15, 3: 8}
	n := lengths[b[0]]
	if n == 0 || len(b) < n || b[1] < 1 || b[1] > 8 || number(2, 6) < 1 || number(2, 6) > lastSeq || b[6] > 3 {
		return command.Command{}, 0
	}
	x, group := id(int(b[1]), int(number(2, 6))), int(b[6])
	if b[0] == 2 && number(7, 15) >= 1 && b[7] < 128 {
		return stamp(x, group, number(7, 15)), n
	}
	if b[0] == 3 && b[7] < 2 {
		return vote(x, group, b[7] == 1), n
	}
	return command.Command{}, 0
}

// expectWhatIsThere asks for what stands at the beginning of b, or for none.
func expectWhatIsThere(t *testing.T, b []byte) {
	t.Helper()
	if x, n := taken(b); n > 0 {
		expectTaken(t, code.New(b), x, len(b)-n)
	} else {
		expectNone(t, fmt.Sprintf("%x", b), code.New(b))
	}
}

// TestTakeOfBytesOfNone lays out the bytes of commands that aren't formed; some are another one's, where a number has more than its bytes.
func TestTakeOfBytesOfNone(t *testing.T) {
	for _, x := range misformed() {
		expectWhatIsThere(t, bytesOf(x))
		expectWhatIsThere(t, append(bytesOf(x), make([]byte, 300)...))
	}
	for _, s := range []string{
		"",
		"\x01\x02\x00\x00\x00\x05\x00\x00",
		"\x01\x00\x00\x00\x00\x02\x01\x00\x01a\x00\x00\x00\x00\x00\x00\x00\x00\x00",
		"\x01\x01\x00\x00\x00\x02\x01\x00\x01A\x00\x00\x00\x00\x00\x00\x00\x00\x00",
		"\x02\x01\x00\x00\x00\x02\x01\x00\x00\x00\x00\x00\x00\x00\x00",
		"\x02\x01\x00\x00\x00\x02\x01\x80\x00\x00\x00\x00\x00\x00\x00",
		"\x02\x01\x00\x00\x00\x02\x04\x00\x00\x00\x00\x00\x00\x00\x07",
		"\x02\x09\x00\x00\x00\x02\x01\x00\x00\x00\x00\x00\x00\x00\x07",
		"\x03\x01\x00\x00\x00\x02\x03\x02",
		"\x03\x01\x00\x00\x00\x02\x03\xFF",
		"\x03\x01\x00\x00\x00\x02\x04\x01",
		"\x03\x01\x00\x00\x00\x00\x03\x01",
		"\x03\x01\x00\x10\x00\x01\x03\x01",
		"\x03\x00\x00\x00\x00\x02\x03\x01",
		"\x04",
		"\xFF",
	} {
		expectNone(t, fmt.Sprintf("%x", s), code.New([]byte(s)))
		if s != "" {
			expectNone(t, fmt.Sprintf("%x, others behind", s), code.New([]byte(s+"\x00\x00\x01\x00")))
		}
	}
}

func TestTakeOfTooFewBytes(t *testing.T) {
	for _, x := range formed() {
		b := bytesOf(x)
		for n := range len(b) {
			expectNone(t, fmt.Sprintf("%d bytes of %+v", n, x), code.New(b[:n]))
		}
	}
}

// TestTakeOfTurnedBytes sets each byte of some commands to each other one.
func TestTakeOfTurnedBytes(t *testing.T) {
	for _, c := range written {
		for i := range len(c.bytes) {
			for turned := range 256 {
				b := append([]byte(c.bytes), "\x00\x01b\x00\x00\x00\x00\x01"...)
				b[i] = byte(turned)
				expectWhatIsThere(t, b)
				expectWhatIsThere(t, b[:len(c.bytes)])
			}
		}
	}
}

func TestTakeBehindOthers(t *testing.T) {
	for _, c := range written {
		for _, bad := range []string{"", "\x04", "\x03\x01\x00\x00\x00\x02\x03", "\x01\x02\x00\x00\x00\x05\x00\x00"} {
			r := code.New([]byte("\x00\x02ab" + c.bytes + bad))
			if s := r.TakeText(2); s != "ab" {
				t.Errorf("ahead of it: %q", s)
			}
			expectTaken(t, r, c.x, len(bad))
			expectNone(t, fmt.Sprintf("%x, behind others", bad), r)
		}
	}
}

func TestTakeOfNilAndFailedReaders(t *testing.T) {
	var nobody *code.Reader
	expectNone(t, "nil", nobody)
	expectNone(t, "zero", code.New(nil))
	for _, x := range formed() {
		r := code.New(bytesOf(x))
		r.Take(9)
		expectNone(t, "failed ahead of it", r)
	}
}

func TestTakeIsNewMemory(t *testing.T) {
	b := []byte(written[7].bytes)
	first, second := command.Take(code.New(b)), command.Take(code.New(b))
	first.Txn.Reads[0], first.Txn.Writes[0] = api.Read{Key: "spoiled"}, api.Write{Key: "spoiled"}
	for i := range b {
		b[i] = 0xFF
	}
	if !alike(second, written[7].x) {
		t.Errorf("%+v", second)
	}
}

// P9.2

func TestWhatIsPutIsTaken(t *testing.T) {
	var b []byte
	for _, x := range formed() {
		b = command.Put(b, x)
	}
	r := code.New(b)
	left := len(b)
	for _, x := range formed() {
		left -= len(bytesOf(x))
		expectTaken(t, r, x, left)
	}
	if !r.End() {
		t.Errorf("OK %v, Left %d", r.OK(), r.Left())
	}
}

func TestNoneIsTheBeginningOfAnother(t *testing.T) {
	all := formed()
	var bytesOfAll [][]byte
	for _, x := range all {
		bytesOfAll = append(bytesOfAll, command.Put(nil, x))
	}
	for i, b := range bytesOfAll {
		for j, c := range bytesOfAll {
			if bytes.HasPrefix(c, b) && !alike(all[i], all[j]) {
				t.Errorf("%x begins with %x", c, b)
			}
		}
	}
}

func FuzzTakeOfAnyBytes(f *testing.F) {
	for _, x := range append(formed(), untrue()...) {
		f.Add(append(bytesOf(x), 7))
	}
	f.Fuzz(func(t *testing.T, b []byte) {
		expectWhatIsThere(t, b)
		x, n := taken(b)
		if n > 0 && (!command.Formed(x) || !bytes.Equal(command.Put(nil, x), b[:n])) {
			t.Errorf("%+v: %x, not %x", x, command.Put(nil, x), b[:n])
		}
	})
}

// isFormed answers whether x is formed, from the words of the chapter.
func isFormed(x command.Command) bool {
	source := txn.Id(x.Id) && x.Group >= 0 && x.Group <= 3
	noTxn := alike(command.Command{}, command.Command{Txn: x.Txn})
	noSource := x.Id == api.Id{} && x.Group == 0
	switch x.Kind {
	case 0:
		return noTxn && noSource && x.Stamp == 0 && !x.Yes
	case 1:
		return txn.Formed(x.Txn) && noSource && x.Stamp == 0 && !x.Yes
	case 2:
		return source && noTxn && x.Stamp > 0 && x.Stamp < 1<<63 && !x.Yes
	}
	return x.Kind == 3 && source && noTxn && x.Stamp == 0
}

func FuzzCommands(f *testing.F) {
	f.Add(0, 0, 0, "", 0, 0, 0, uint64(0), false)
	f.Add(1, 2, 5, "a", 0, 0, 0, uint64(0), false)
	f.Add(2, 0, 0, "", 1, 2, 1, uint64(7), false)
	f.Add(3, 0, 0, "", 8, lastSeq, 3, uint64(0), true)
	f.Add(2, 0, 0, "", 8, lastSeq, 4, lastStamp+1, true)
	f.Fuzz(func(t *testing.T, kind, session, seq int, key string, session2, seq2, group int, n uint64, yes bool) {
		x := command.Command{Kind: kind, Txn: api.Txn{Id: id(session, seq)}, Id: id(session2, seq2), Group: group, Stamp: n, Yes: yes}
		if key != "" {
			x.Txn.Reads = []api.Read{{Key: key, Version: n}}
		}
		before := clone(x)
		if command.Formed(x) != isFormed(x) {
			t.Fatalf("Formed(%+v) = %v", x, !isFormed(x))
		}
		b := command.Put([]byte{7}, x)
		if isFormed(x) {
			expectTaken(t, code.New(b[1:]), x, 0)
		} else if string(b) != "\x07" {
			t.Errorf("Put of %+v: %x", x, b)
		}
		if !alike(x, before) || !command.Same(x, before) {
			t.Errorf("%+v was %+v", x, before)
		}
	})
}
