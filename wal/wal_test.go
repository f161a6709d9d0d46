package wal_test

import (
	"bytes"
	"encoding/binary"
	"fmt"
	"hash/crc32"
	"math"
	"slices"
	"strings"
	"testing"

	"parish/api"
	"parish/ballot"
	"parish/code"
	"parish/command"
	"parish/disk"
	"parish/wal"
)

// most is how many bytes Data has at most.
const most = 59900

// outsideKind, outsideNode and outsideSlot: numbers that no formed record has; the last bytes of some are one's.
var (
	outsideKind = []int{0, 5, 6, 127, 255, 256, 257, 258, 259, 260, -1, -2, -252, -255, 1<<32 + 1, math.MinInt, math.MinInt + 1, math.MaxInt}
	outsideNode = []int{5, 6, 255, 256, 257, -1, -255, -256, 1 << 32, math.MinInt, math.MaxInt}
	outsideSlot = []int{api.MaxSlots + 1, api.MaxSlots + 2, math.MaxInt32, math.MaxUint32, 1 << 32, 1<<32 + 1, -1, -2, -1 << 32, math.MinInt, math.MaxInt}
)

var (
	insideBallot = []ballot.Ballot{{}, {Round: 3, Node: 1}, {Round: math.MaxUint32, Node: 4}, {Round: 0x01020304}, {Node: 2}}
	insideSlot   = []int{0, 1, 7, 255, 256, 65536, api.MaxSlots - 1, api.MaxSlots}
)

func id(session, seq int) api.Id {
	return api.Id{Session: session, Seq: seq}
}

func commands() []command.Command {
	value := api.Value{Kind: api.Text, Text: strings.Repeat("v", 40)}
	wide := api.Txn{Id: id(8, 1048576)}
	for _, key := range []string{"000000000000", "9", "a", "a0", "aa", "zzzzzzzzzzzz"} {
		wide.Reads = append(wide.Reads, api.Read{Key: key, Version: math.MaxUint64})
		wide.Writes = append(wide.Writes, api.Write{Key: key, Value: value})
	}
	return []command.Command{
		{},
		{Txn: api.Txn{Reads: []api.Read{}, Writes: []api.Write{}}},
		{Kind: command.Begin, Txn: api.Txn{Id: id(1, 2), Reads: []api.Read{{Key: "a", Version: 3}}}},
		{Kind: command.Begin, Txn: wide},
		{Kind: command.Stamp, Id: id(1, 2), Group: 1, Stamp: 7},
		{Kind: command.Stamp, Id: id(8, 1048576), Group: 3, Stamp: math.MaxInt64},
		{Kind: command.Vote, Id: id(1, 2), Group: 3, Yes: true},
		{Kind: command.Vote, Id: id(2, 1)},
	}
}

func outsideCommands() []command.Command {
	return []command.Command{
		{Kind: 4},
		{Kind: -1},
		{Kind: 256},
		{Group: 1},
		{Yes: true},
		{Kind: command.Begin},
		{Kind: command.Begin, Txn: api.Txn{Id: id(1, 2)}},
		{Kind: command.Stamp, Id: id(1, 2), Group: 1},
		{Kind: command.Stamp, Id: id(1, 2), Group: 4, Stamp: 7},
		{Kind: command.Stamp, Stamp: 7},
		{Kind: command.Vote},
		{Kind: command.Vote, Id: id(9, 2)},
		{Kind: command.Vote, Id: id(1, 2), Stamp: 1},
	}
}

func promised(b ballot.Ballot) wal.Record {
	return wal.Record{Kind: 1, Ballot: b}
}

func voted(b ballot.Ballot, slot int, c command.Command) wal.Record {
	return wal.Record{Kind: 2, Ballot: b, Slot: slot, Command: c}
}

func learnt(slot int, c command.Command) wal.Record {
	return wal.Record{Kind: 3, Slot: slot, Command: c}
}

func snapshot(slot int, data string) wal.Record {
	return wal.Record{Kind: 4, Slot: slot, Data: []byte(data)}
}

// formed: records of all kinds, at the edges of what is formed.
func formed() []wal.Record {
	var all []wal.Record
	for _, b := range insideBallot {
		all = append(all, promised(b), voted(b, 1, commands()[6]))
	}
	for _, slot := range insideSlot {
		all = append(all, voted(insideBallot[1], slot, commands()[4]), learnt(slot, commands()[6]), snapshot(slot, "ab"))
	}
	for _, c := range commands() {
		all = append(all, voted(insideBallot[2], 515, c), learnt(515, c))
	}
	for _, data := range []string{"\x00", "\xFF\xFE", "\x04\x00\x00\x00\x07", strings.Repeat("long", 300)} {
		all = append(all, snapshot(7, data))
	}
	return append(all, wal.Record{Kind: 4}, wal.Record{Kind: 4, Slot: 1, Data: []byte{}}, wal.Record{Kind: 1, Data: []byte{}})
}

// untrue: records whose own fields aren't well, and nothing beside them is set.
func untrue() []wal.Record {
	var all []wal.Record
	for _, kind := range outsideKind {
		all = append(all,
			wal.Record{Kind: kind},
			wal.Record{Kind: kind, Ballot: insideBallot[1]},
			wal.Record{Kind: kind, Ballot: insideBallot[1], Slot: 2, Command: commands()[6]},
			wal.Record{Kind: kind, Slot: 2, Data: []byte("ab")})
	}
	for _, node := range outsideNode {
		b := ballot.Ballot{Round: 3, Node: node}
		all = append(all, promised(b), voted(b, 2, command.Command{}), voted(b, 2, commands()[6]))
	}
	for _, slot := range outsideSlot {
		all = append(all, voted(insideBallot[1], slot, commands()[6]), learnt(slot, command.Command{}), learnt(slot, commands()[4]), snapshot(slot, "ab"), snapshot(slot, ""))
	}
	for _, c := range outsideCommands() {
		all = append(all, voted(insideBallot[1], 2, c), voted(ballot.Ballot{}, 0, c), learnt(2, c))
	}
	return append(all, snapshot(7, strings.Repeat("a", most+1)))
}

// fields: for each field but the kind, ways to set it to what isn't zero.
func fields() map[string][]func(x *wal.Record) {
	return map[string][]func(x *wal.Record){
		"Ballot": {
			func(x *wal.Record) { x.Ballot.Round = 1 },
			func(x *wal.Record) { x.Ballot.Node = 1 },
			func(x *wal.Record) { x.Ballot.Node = -1 },
		},
		"Slot": {
			func(x *wal.Record) { x.Slot = 1 },
			func(x *wal.Record) { x.Slot = -1 },
			func(x *wal.Record) { x.Slot = 1 << 32 },
		},
		"Command": {
			func(x *wal.Record) { x.Command = commands()[6] },
			func(x *wal.Record) { x.Command.Kind = 4 },
			func(x *wal.Record) { x.Command = command.Command{Yes: true} },
			func(x *wal.Record) { x.Command.Txn.Reads = []api.Read{{}} },
		},
		"Data": {
			func(x *wal.Record) { x.Data = []byte{0} },
			func(x *wal.Record) { x.Data = []byte("ab") },
		},
	}
}

// unnamed: which fields a kind doesn't name.
var unnamed = map[int][]string{
	1: {"Slot", "Command", "Data"},
	2: {"Data"},
	3: {"Ballot", "Data"},
	4: {"Ballot", "Command"},
}

// overfull: formed records with one field more than their kind names.
func overfull() []wal.Record {
	var all []wal.Record
	for _, x := range formed() {
		for _, field := range unnamed[x.Kind] {
			for _, set := range fields()[field] {
				y := clone(x)
				set(&y)
				all = append(all, y)
			}
		}
	}
	return all
}

func misformed() []wal.Record {
	return append(untrue(), overfull()...)
}

func clone(x wal.Record) wal.Record {
	x.Command.Txn.Reads, x.Command.Txn.Writes = slices.Clone(x.Command.Txn.Reads), slices.Clone(x.Command.Txn.Writes)
	x.Data = bytes.Clone(x.Data)
	return x
}

// show tells all of a record, a list of none as one that is nil.
func show(x wal.Record) string {
	return fmt.Sprintf("%d %v %d %v %q", x.Kind, x.Ballot, x.Slot, x.Command, x.Data)
}

func alike(a, b wal.Record) bool {
	return show(a) == show(b)
}

// number answers the last n bytes of x, the most significant one first.
func number(x, n int) string {
	return string(binary.BigEndian.AppendUint64(nil, uint64(x))[8-n:])
}

// bytesOf answers a record's bytes as the chapter writes them, of one that isn't formed too; but of a command by layer 9.
func bytesOf(x wal.Record) string {
	s := number(x.Kind, 1)
	ballot := number(int(x.Ballot.Round), 4) + number(x.Ballot.Node, 1)
	slot := number(x.Slot, 4)
	put := string(command.Put(nil, x.Command))
	switch x.Kind {
	case 1:
		return s + ballot
	case 2:
		return s + ballot + slot + put
	case 3:
		return s + slot + put
	case 4:
		return s + slot + number(len(x.Data), 4) + string(x.Data)
	}
	return s + ballot + slot + put + string(x.Data)
}

// framed answers the body's frame, reckoned without layer 3.
func framed(body string) string {
	return number(len(body), 4) + number(int(crc32.ChecksumIEEE([]byte(body))), 4) + body
}

// frames answers the frames of the records, one behind the other.
func frames(list ...wal.Record) string {
	var all strings.Builder
	for _, x := range list {
		all.WriteString(framed(bytesOf(x)))
	}
	return all.String()
}

// held answers a disk of a million bytes that has those of s; none of them last.
func held(s string) *disk.Disk {
	d := disk.New(1000000)
	d.Append([]byte(s))
	return d
}

func answers(t *testing.T, what string, got, want api.Errno) {
	t.Helper()
	if got != want {
		t.Errorf("%s: error %d, not %d", what, got, want)
	}
}

func expectList(t *testing.T, what string, got, want []wal.Record) {
	t.Helper()
	if !slices.EqualFunc(got, want, alike) {
		t.Errorf("%s: %d records %.200v, not %d %.200v", what, len(got), got, len(want), want)
	}
}

func expectBytes(t *testing.T, what string, d *disk.Disk, want string, lasting int) {
	t.Helper()
	if string(d.Bytes()) != want || d.Lasting() != lasting {
		t.Errorf("%s: %d bytes, %d lasting, not %d, %d", what, len(d.Bytes()), d.Lasting(), len(want), lasting)
	}
}

// expectOpen opens d twice, and expects the list, and that just its frames are on the disk then.
func expectOpen(t *testing.T, what string, d *disk.Disk, want ...wal.Record) {
	t.Helper()
	for range 2 {
		list, e := wal.Open(d)
		answers(t, what, e, api.OK)
		expectList(t, what, list, want)
		if got := string(d.Bytes()); got != frames(want...) {
			t.Errorf("%s: %d bytes are there, not %d", what, len(got), len(frames(want...)))
		}
	}
}

func expectNone(t *testing.T, b string) {
	t.Helper()
	x, e := wal.Read([]byte(b))
	if e != api.ErrForm || !alike(x, wal.Record{}) {
		t.Errorf("Read of %.60x: %.60v, error %d", b, x, e)
	}
}

func expectRead(t *testing.T, b string, want wal.Record) {
	t.Helper()
	x, e := wal.Read([]byte(b))
	if e != api.OK || !alike(x, want) {
		t.Errorf("Read of %.60x: %.60v, error %d, not %.60v", b, x, e, want)
	}
}

// P13.1

func TestKinds(t *testing.T) {
	if got := [...]int{wal.Promised, wal.Voted, wal.Learnt, wal.Snapshot}; got != [...]int{1, 2, 3, 4} {
		t.Errorf("%v", got)
	}
}

func TestFormed(t *testing.T) {
	for _, x := range formed() {
		if !wal.Formed(x) {
			t.Errorf("%.200v isn't formed", x)
		}
	}
	for _, x := range misformed() {
		if wal.Formed(x) {
			t.Errorf("%.200v is formed", x)
		}
	}
}

func TestFormedOfLongData(t *testing.T) {
	for n, want := range map[int]bool{0: true, 1: true, most - 1: true, most: true, most + 1: false, 60000: false, 65536: false, 1 << 20: false} {
		x := snapshot(7, strings.Repeat("d", n))
		if wal.Formed(x) != want {
			t.Errorf("%d bytes: %v", n, !want)
		}
		b, e := wal.Write(x)
		if want {
			answers(t, "Write", e, api.OK)
			expectRead(t, string(b), x)
		} else {
			answers(t, "Write", e, api.ErrForm)
			expectNone(t, bytesOf(x))
		}
	}
}

func TestSameOfOneFieldTurned(t *testing.T) {
	bases := append(formed(), wal.Record{}, wal.Record{Kind: 9, Ballot: ballot.Ballot{Round: 1, Node: -7}, Slot: -1, Command: command.Command{Kind: 5, Yes: true}, Data: []byte("all")})
	for _, x := range bases {
		if !wal.Same(x, x) || !wal.Same(x, clone(x)) {
			t.Errorf("%.60v isn't as itself", x)
		}
		turned := slices.Repeat([]wal.Record{x}, 9)
		for i := range turned {
			turned[i] = clone(x)
		}
		turned[0].Kind++
		turned[1].Ballot.Round++
		turned[2].Ballot.Node--
		turned[3].Slot++
		turned[4].Command.Kind++
		turned[5].Command.Txn.Writes = append(turned[5].Command.Txn.Writes, api.Write{})
		turned[6].Command.Yes = !x.Command.Yes
		turned[7].Data = append(turned[7].Data, 0)
		turned[8].Data = append(turned[8].Data, x.Data...)
		if len(x.Data) > 0 {
			turned[8].Data = bytes.Clone(x.Data)
			turned[8].Data[len(x.Data)-1]++
		}
		for i, y := range turned {
			if want := alike(x, y); wal.Same(x, y) != want || wal.Same(y, x) != want || want && i < 8 {
				t.Errorf("turned at %d: %.60v is as %.60v", i, x, y)
			}
		}
	}
}

func TestSameOfAllPairs(t *testing.T) {
	all := append(formed(), misformed()...)
	shown := make([]string, len(all))
	for i, x := range all {
		shown[i] = show(x)
	}
	for i, x := range all {
		for j, y := range all {
			if got := wal.Same(x, y); got != (shown[i] == shown[j]) {
				t.Errorf("Same(%.60v, %.60v) = %v", x, y, got)
			}
		}
	}
}

// A list of none may be nil or empty, and means the same.
func TestNilAndEmptyLists(t *testing.T) {
	for _, x := range append(formed(), misformed()...) {
		if len(x.Data)+len(x.Command.Txn.Reads)+len(x.Command.Txn.Writes) > 0 {
			continue
		}
		n, e := clone(x), clone(x)
		n.Data, n.Command.Txn.Reads, n.Command.Txn.Writes = nil, nil, nil
		e.Data, e.Command.Txn.Reads, e.Command.Txn.Writes = make([]byte, 0, 3), make([]api.Read, 0, 3), make([]api.Write, 0, 3)
		if !wal.Same(n, e) || !wal.Same(e, n) || wal.Formed(n) != wal.Formed(e) {
			t.Errorf("%v: Formed %v, %v", x, wal.Formed(n), wal.Formed(e))
		}
		a, f := wal.Write(n)
		b, g := wal.Write(e)
		if !bytes.Equal(a, b) || f != g {
			t.Errorf("%v: %x, %x", x, a, b)
		}
	}
}

// written: records and their bytes, byte by byte; the first one is the example of the chapter.
func written() []struct {
	x     wal.Record
	bytes string
} {
	vote, bytesOfVote := commands()[6], "\x03\x01\x00\x00\x00\x02\x03\x01"
	last := ballot.Ballot{Round: 0x01020304, Node: 4}
	return []struct {
		x     wal.Record
		bytes string
	}{
		{promised(ballot.Ballot{Round: 3, Node: 1}), "\x01\x00\x00\x00\x03\x01"},
		{promised(ballot.Ballot{}), "\x01\x00\x00\x00\x00\x00"},
		{promised(last), "\x01\x01\x02\x03\x04\x04"},
		{voted(last, 2, command.Command{}), "\x02\x01\x02\x03\x04\x04\x00\x00\x00\x02\x00"},
		{voted(ballot.Ballot{Round: 1}, 1000000, vote), "\x02\x00\x00\x00\x01\x00\x00\x0F\x42\x40" + bytesOfVote},
		{learnt(0x010203, vote), "\x03\x00\x01\x02\x03" + bytesOfVote},
		{learnt(0, command.Command{}), "\x03\x00\x00\x00\x00\x00"},
		{snapshot(7, "ab"), "\x04\x00\x00\x00\x07\x00\x00\x00\x02ab"},
		{snapshot(1000000, ""), "\x04\x00\x0F\x42\x40\x00\x00\x00\x00"},
		{snapshot(0, strings.Repeat("\x00", 258)), "\x04\x00\x00\x00\x00\x00\x00\x01\x02" + strings.Repeat("\x00", 258)},
	}
}

func TestWriteAndReadOfWrittenRecords(t *testing.T) {
	for _, c := range written() {
		if b, e := wal.Write(c.x); string(b) != c.bytes || e != api.OK {
			t.Errorf("Write of %v: %x, error %d", c.x, b, e)
		}
		expectRead(t, c.bytes, c.x)
	}
}

func TestWrite(t *testing.T) {
	for _, x := range formed() {
		if b, e := wal.Write(x); string(b) != bytesOf(x) || e != api.OK {
			t.Errorf("Write of %.60v: %.60x, error %d", x, b, e)
		}
	}
	for _, x := range misformed() {
		if b, e := wal.Write(x); len(b) != 0 || e != api.ErrForm {
			t.Errorf("Write of %.60v: %.60x, error %d", x, b, e)
		}
	}
}

func TestRead(t *testing.T) {
	for _, x := range formed() {
		expectRead(t, bytesOf(x), x)
	}
}

// told answers the record that all of b is, by other means than the package's; none, if it isn't one.
func told(b string) (wal.Record, bool) {
	next := func(n int) int {
		x := 0
		for range n {
			if b == "" {
				return -1
			}
			x, b = x*256+int(b[0]), b[1:]
		}
		return x
	}
	put := func() (command.Command, bool) {
		r := code.New([]byte(b))
		c := command.Take(r)
		return c, r.End()
	}
	switch next(1) {
	case 1:
		round, node := next(4), next(1)
		return promised(ballot.Ballot{Round: uint32(round), Node: node}), round >= 0 && node >= 0 && node <= 4 && b == ""
	case 2:
		round, node, slot := next(4), next(1), next(4)
		c, whole := put()
		x := voted(ballot.Ballot{Round: uint32(round), Node: node}, slot, c)
		return x, whole && round >= 0 && node >= 0 && node <= 4 && slot >= 0 && slot <= 1000000
	case 3:
		slot := next(4)
		c, whole := put()
		return learnt(slot, c), whole && slot >= 0 && slot <= 1000000
	case 4:
		slot, n := next(4), next(4)
		return snapshot(slot, b), slot >= 0 && slot <= 1000000 && n == len(b) && n <= most
	}
	return wal.Record{}, false
}

// expectWhatIsThere reads b, and expects what told tells.
func expectWhatIsThere(t *testing.T, b string) {
	t.Helper()
	if x, ok := told(b); ok {
		expectRead(t, b, x)
	} else {
		expectNone(t, b)
	}
}

// TestReadOfBytesOfNone lays out the bytes of records that aren't formed; some are another one's, where a number has more than its bytes.
func TestReadOfBytesOfNone(t *testing.T) {
	for _, x := range misformed() {
		expectWhatIsThere(t, bytesOf(x))
	}
	for _, b := range []string{
		"",
		"\x00",
		"\x05",
		"\xFF",
		"\x00\x00\x00\x00\x03\x01",
		"\x05\x00\x00\x00\x03\x01",
		"\x01\x00\x00\x00\x03\x05",
		"\x01\x00\x00\x00\x03\xFF",
		"\x01\x00\x00\x00\x03\x01\x00",
		"\x02\x00\x00\x00\x03\x05\x00\x00\x00\x02\x00",
		"\x02\x00\x00\x00\x03\x01\x00\x0F\x42\x41\x00",
		"\x02\x00\x00\x00\x03\x01\x00\x00\x00\x02\x04",
		"\x02\x00\x00\x00\x03\x01\x00\x00\x00\x02\x00\x00",
		"\x03\x00\x0F\x42\x41\x00",
		"\x03\xFF\xFF\xFF\xFF\x00",
		"\x03\x00\x00\x00\x01\x03\x01\x00\x00\x00\x02\x03\x02",
		"\x04\x00\x0F\x42\x41\x00\x00\x00\x00",
		"\x04\x00\x00\x00\x07\x00\x00\x00\x03ab",
		"\x04\x00\x00\x00\x07\x00\x00\x00\x01ab",
		"\x04\x00\x00\x00\x07\x00\x00\x00\x00a",
		"\x04\x00\x00\x00\x07\xFF\xFF\xFF\xFFab",
		"\x04\x00\x00\x00\x07\x80\x00\x00\x02ab",
	} {
		expectNone(t, b)
	}
}

func TestReadOfTooFewAndTooManyBytes(t *testing.T) {
	for _, x := range formed() {
		b := bytesOf(x)
		for n := range len(b) {
			expectNone(t, b[:n])
		}
		for _, behind := range []string{"\x00", "\x01", "ab"} {
			expectNone(t, b+behind)
		}
	}
}

// TestReadOfTurnedBytes sets each byte of some records to each other one.
func TestReadOfTurnedBytes(t *testing.T) {
	for _, c := range written()[:9] {
		for i := range c.bytes {
			for turned := range 256 {
				expectWhatIsThere(t, c.bytes[:i]+string([]byte{byte(turned)})+c.bytes[i+1:])
			}
		}
	}
}

func TestOfAllShortBytes(t *testing.T) {
	for a := range 256 {
		expectNone(t, string([]byte{byte(a)}))
		for b := range 256 {
			expectNone(t, string([]byte{byte(a), byte(b)}))
		}
	}
}

func TestNoTwoHaveTheSameBytes(t *testing.T) {
	by := map[string]string{}
	for _, x := range formed() {
		b, _ := wal.Write(x)
		if other, there := by[string(b)]; there && other != show(x) {
			t.Errorf("%.60v and %.60v: %.60x", x, other, b)
		}
		by[string(b)] = show(x)
	}
}

// roomy answers a list of s's bytes with spare room behind it, and all of its room.
func roomy(s string) ([]byte, []byte) {
	room := append([]byte(s), bytes.Repeat([]byte{0xEE}, 64)...)
	return room[:len(s)], room
}

func spoil(b []byte) {
	for i := range b {
		b[i] = 0xDD
	}
}

func TestArgumentsAreLeft(t *testing.T) {
	for _, x := range append(formed(), untrue()...) {
		before, d := clone(x), disk.New(1000000)
		data, room := roomy(string(x.Data))
		x.Data = data
		was := bytes.Clone(room)
		wal.Formed(x)
		wal.Same(x, x)
		b, _ := wal.Write(x)
		spoil(b)
		wal.Add(d, x)
		wal.Compact(d, x, x)
		if !alike(x, before) || !bytes.Equal(room, was) {
			t.Errorf("%.60v was %.60v", x, before)
		}
		there := d.Bytes()
		spoil(room)
		if !bytes.Equal(d.Bytes(), there) {
			t.Errorf("%.60v: the disk keeps what it was written from", before)
		}
	}
}

func TestCompactLeavesItsList(t *testing.T) {
	room := []wal.Record{snapshot(7, "ab"), promised(insideBallot[1]), learnt(8, commands()[4]), {Kind: 9}}
	before := slices.Clone(room)
	answers(t, "Compact", wal.Compact(disk.New(1000), room[:2]...), api.OK)
	answers(t, "Compact", wal.Compact(disk.New(1000), room...), api.ErrForm)
	expectList(t, "the list", room, before)
}

func TestWriteIsNewMemory(t *testing.T) {
	for _, x := range formed() {
		a, _ := wal.Write(x)
		b, _ := wal.Write(x)
		spoil(a)
		_ = append(b, "more"...)
		if string(b) != bytesOf(x) {
			t.Errorf("%.60v: %.60x", x, b)
		}
	}
}

func TestReadIsNewMemory(t *testing.T) {
	for _, x := range formed() {
		b, room := roomy(bytesOf(x))
		was := bytes.Clone(room)
		first, _ := wal.Read(b)
		second, _ := wal.Read(b)
		spoil(first.Data)
		_ = append(first.Data, "more"...)
		for i := range first.Command.Txn.Reads {
			first.Command.Txn.Reads[i].Key = "spoiled"
		}
		if !alike(second, x) || !bytes.Equal(room, was) {
			t.Errorf("%.60v, not %.60v", second, x)
		}
		spoil(room)
		if !alike(second, x) {
			t.Errorf("%.60v hangs on what it was read from", x)
		}
	}
}

// P13.2

func TestExample(t *testing.T) {
	d := disk.New(100)
	answers(t, "Add", wal.Add(d, promised(ballot.Ballot{Round: 3, Node: 1})), api.OK)
	if n := len(d.Bytes()); n != 14 {
		t.Errorf("%d bytes", n)
	}
}

func TestAddPutsFramesBehind(t *testing.T) {
	d, all := disk.New(1000000), formed()
	for i, x := range all {
		answers(t, "Add", wal.Add(d, x), api.OK)
		expectBytes(t, "Add", d, frames(all[:i+1]...), 0)
	}
	expectOpen(t, "all", d, all...)
	expectBytes(t, "Open", d, frames(all...), 0)
}

// TestAddBehindOthers: Add asks nothing of what is there; Open does.
func TestAddBehindOthers(t *testing.T) {
	d, x := held("others"), snapshot(7, "ab")
	d.Sync()
	answers(t, "Add", wal.Add(d, x), api.OK)
	expectBytes(t, "Add", d, "others"+frames(x), 6)
}

func TestAddOfMisformed(t *testing.T) {
	for _, x := range misformed() {
		d := held("there")
		d.SetFuse(0)
		answers(t, "Add", wal.Add(d, x), api.ErrForm)
		expectBytes(t, "Add", d, "there", 0)
		if d.Down() {
			t.Errorf("%.60v burnt the fuse", x)
		}
	}
}

func TestAddWithoutRoom(t *testing.T) {
	for _, x := range []wal.Record{promised(insideBallot[1]), snapshot(7, "ab"), learnt(3, commands()[3])} {
		n := len(frames(x))
		for size := range n + 3 {
			d := disk.New(size)
			want, there := api.ErrFull, ""
			if size >= n {
				want, there = api.OK, frames(x)
			}
			answers(t, "Add", wal.Add(d, x), want)
			expectBytes(t, "Add", d, there, 0)
			if size >= n {
				answers(t, "Add", wal.Add(d, x), api.ErrFull)
				expectBytes(t, "Add", d, there, 0)
			}
		}
	}
}

func TestOpenOfWholeFrames(t *testing.T) {
	all := formed()
	expectOpen(t, "an empty one", disk.New(10))
	expectOpen(t, "one without room", disk.New(0))
	for i, x := range all {
		expectOpen(t, "one", held(frames(x)), x)
		expectOpen(t, "some", held(frames(all[:i]...)), all[:i]...)
	}
}

// TestOpenDoesNoActOnWholeFrames: where nothing is to be taken away, nothing lasts by it, and no fuse burns.
func TestOpenDoesNoActOnWholeFrames(t *testing.T) {
	for _, list := range [][]wal.Record{nil, formed()} {
		d := held(frames(list...))
		d.SetFuse(0)
		expectOpen(t, "whole", d, list...)
		expectBytes(t, "whole", d, frames(list...), 0)
		if d.Down() {
			t.Error("it is down")
		}
	}
}

// spoilt: what may stand behind frames, or between them, and tells no record.
func spoilt() []string {
	x := framed(bytesOf(promised(insideBallot[1])))
	turned := []byte(x)
	turned[len(turned)-1] ^= 1
	summed := []byte(x)
	summed[5] ^= 1
	return []string{
		"\x00", "\x01\x02", x[:1], x[:7], x[:8], x[:len(x)-1],
		string(turned), string(summed),
		strings.Repeat("\x00", 8), // the frame of an empty body
		strings.Repeat("\xFF", 100),
		framed("\x00"), framed("\x05"), framed("ab"),
		framed("\x01\x00\x00\x00\x03\x05"), framed("\x01\x00\x00\x00\x03\x01\x00"), framed("\x01\x00\x00\x00\x03"),
		framed(bytesOf(learnt(1000001, command.Command{}))),
		framed(bytesOf(snapshot(7, strings.Repeat("a", most+1)))),
		framed(strings.Repeat("\x04", 60000)),
		framed(strings.Repeat("\x04", 60001)),
		framed("\x04\x00\x00\x00\x07\x00\x00\x00\x03ab"),
		framed(x),
	}
}

func TestOpenTakesAwayWhatIsBehind(t *testing.T) {
	lists := [][]wal.Record{nil, {promised(insideBallot[1])}, {snapshot(7, "ab"), voted(insideBallot[2], 3, commands()[3]), learnt(2, commands()[2])}}
	others := frames(learnt(9, command.Command{}), promised(insideBallot[2]))
	for _, list := range lists {
		for i, bad := range spoilt() {
			for _, behind := range []string{"", "z", others} {
				what := fmt.Sprintf("%d records, the bytes %d, %d behind them", len(list), i, len(behind))
				d := held(frames(list...) + bad + behind)
				expectOpen(t, what, d, list...)
				expectBytes(t, what, d, frames(list...), len(frames(list...)))
				answers(t, what, wal.Add(d, snapshot(1, "z")), api.OK)
				expectOpen(t, what, d, append(slices.Clone(list), snapshot(1, "z"))...)
			}
		}
	}
}

// TestOpenWhenThePowerGoes: the records are there, but beside an error none is told; a cut tells if the others were taken away.
func TestOpenWhenThePowerGoes(t *testing.T) {
	list := []wal.Record{promised(insideBallot[1]), snapshot(7, "ab")}
	for _, bad := range spoilt() {
		for kept, want := range []string{frames(list...) + bad, frames(list...)} {
			d := held(frames(list...) + bad)
			d.Sync()
			d.SetFuse(0)
			for range 2 {
				got, e := wal.Open(d)
				answers(t, "Open", e, api.ErrLost)
				expectList(t, "Open", got, nil)
				if !d.Down() {
					t.Error("it is up")
				}
			}
			c := d.Cut(kept)
			expectBytes(t, "Cut", c, want, len(want))
			expectOpen(t, "behind the cut", c, list...)
		}
	}
}

func TestDown(t *testing.T) {
	x := snapshot(7, "ab")
	cut, blown := held(frames(x)), held(frames(x)+"z")
	cut.Cut(0)
	blown.SetFuse(0)
	blown.Sync()
	var nobody *disk.Disk
	for _, d := range []*disk.Disk{cut, blown, nobody} {
		before := string(d.Bytes())
		for range 2 {
			list, e := wal.Open(d)
			answers(t, "Open", e, api.ErrLost)
			expectList(t, "Open", list, nil)
			answers(t, "Add", wal.Add(d, x), api.ErrLost)
			answers(t, "Add", wal.Add(d, wal.Record{}), api.ErrForm)
			answers(t, "Add", wal.Add(d, snapshot(7, strings.Repeat("a", most))), api.ErrLost)
			answers(t, "Compact", wal.Compact(d), api.ErrLost)
			answers(t, "Compact", wal.Compact(d, x, x), api.ErrLost)
			answers(t, "Compact", wal.Compact(d, x, wal.Record{}), api.ErrForm)
			expectBytes(t, "down", d, before, 0)
		}
	}
}

func TestOpenIsNewMemory(t *testing.T) {
	x := snapshot(7, "ab")
	d := held(frames(x, x))
	list, _ := wal.Open(d)
	spoil(list[0].Data)
	_ = append(list[0].Data, "more"...)
	_ = append(list[:1], wal.Record{})
	expectBytes(t, "Open", d, frames(x, x), 0)
	expectOpen(t, "Open", d, x, x)
	again, _ := wal.Open(d)
	spoil(again[0].Data)
	if !alike(again[1], x) {
		t.Errorf("%v", again[1])
	}
}

func TestCompact(t *testing.T) {
	all := formed()
	for _, ahead := range []string{"", "others", frames(all[:3]...)} {
		for n := range len(all) {
			d := held(ahead)
			answers(t, "Compact", wal.Compact(d, all[:n]...), api.OK)
			expectBytes(t, "Compact", d, frames(all[:n]...), len(frames(all[:n]...)))
			expectOpen(t, "Compact", d, all[:n]...)
		}
	}
	d := held("others")
	answers(t, "Compact", wal.Compact(d), api.OK)
	expectBytes(t, "of none", d, "", 0)
	answers(t, "Compact", wal.Compact(d, all[0], all[0]), api.OK)
	expectOpen(t, "of one twice", d, all[0], all[0])
}

func TestCompactOfMisformed(t *testing.T) {
	ok := snapshot(7, "ab")
	for _, x := range misformed() {
		for _, list := range [][]wal.Record{{x}, {x, ok}, {ok, x}, {ok, ok, x, ok}} {
			d := held("there")
			d.SetFuse(0)
			answers(t, "Compact", wal.Compact(d, list...), api.ErrForm)
			expectBytes(t, "Compact", d, "there", 0)
			if d.Down() {
				t.Errorf("%.60v burnt the fuse", x)
			}
		}
	}
}

func TestCompactWithoutRoom(t *testing.T) {
	list := []wal.Record{snapshot(7, "ab"), promised(insideBallot[1])}
	n := len(frames(list...))
	for size := 5; size < n+3; size++ {
		d := disk.New(size)
		d.Append([]byte("there"))
		want, there, lasting := api.ErrFull, "there", 0
		if size >= n {
			want, there, lasting = api.OK, frames(list...), n
		}
		answers(t, "Compact", wal.Compact(d, list...), want)
		expectBytes(t, "Compact", d, there, lasting)
	}
	d := disk.New(3)
	answers(t, "Compact", wal.Compact(d, list[0], wal.Record{Kind: 5}), api.ErrForm)
}

// TestCompactWhenThePowerGoes: it is done whole or not at all.
func TestCompactWhenThePowerGoes(t *testing.T) {
	old, fresh := []wal.Record{promised(insideBallot[1]), learnt(1, commands()[4])}, []wal.Record{snapshot(1, "ab")}
	for _, kept := range []int{math.MinInt, -1, 0, 1, 2, math.MaxInt} {
		d := held(frames(old...))
		d.Sync()
		d.SetFuse(0)
		answers(t, "Compact", wal.Compact(d, fresh...), api.ErrLost)
		if kept > 0 {
			expectOpen(t, "done", d.Cut(kept), fresh...)
		} else {
			expectOpen(t, "not done", d.Cut(kept), old...)
		}
	}
}

func TestLongLogs(t *testing.T) {
	d := disk.New(1 << 22)
	var all []wal.Record
	for i := range 5000 {
		x := learnt(i, commands()[i%len(commands())])
		all = append(all, x)
		answers(t, "Add", wal.Add(d, x), api.OK)
	}
	all = append(all, snapshot(5000, strings.Repeat("d", most)))
	answers(t, "Add", wal.Add(d, all[5000]), api.OK)
	d.Append([]byte("z"))
	expectOpen(t, "long", d, all...)
}

// P13.3

// TestBehindAnyCut: a log of some records, of which some were synced, is cut at each of its bytes.
func TestBehindAnyCut(t *testing.T) {
	all := []wal.Record{promised(insideBallot[1]), voted(insideBallot[1], 0, commands()[6]), learnt(0, commands()[6]), snapshot(1, "ab"), {Kind: 4}, voted(insideBallot[2], 1, command.Command{})}
	more := learnt(7, commands()[4])
	for synced := range len(all) + 1 {
		lasting := len(frames(all[:synced]...))
		for kept := -1; kept <= len(frames(all...))-lasting+1; kept++ {
			d := disk.New(1000)
			for i, x := range all {
				if i == synced {
					d.Sync()
				}
				wal.Add(d, x)
			}
			if synced == len(all) {
				d.Sync()
			}
			c := d.Cut(kept)
			n := synced
			for n < len(all) && len(frames(all[:n+1]...)) <= lasting+kept {
				n++
			}
			what := fmt.Sprintf("%d synced, %d kept", synced, kept)
			expectOpen(t, what, c, all[:n]...)
			if c.Lasting() != len(frames(all[:n]...)) {
				t.Errorf("%s: %d lasting", what, c.Lasting())
			}
			answers(t, what, wal.Add(c, more), api.OK)
			expectOpen(t, what, c, append(slices.Clone(all[:n]), more)...)
		}
	}
}

// walker goes with a disk, and knows what was added to it, and how much of that must be told behind a cut.
type walker struct {
	d      *disk.Disk
	size   int
	list   []wal.Record
	synced int
	next   []wal.Record // what the list is, if a Compact within which the power went is done
	torn   bool
	state  uint32
}

func begun(size int) *walker {
	return &walker{d: disk.New(size), size: size}
}

// draw answers a number below n.
func (w *walker) draw(n int) int {
	w.state = w.state*1664525 + 1013904223
	return int(w.state>>16) % n
}

func (w *walker) add(t *testing.T, x wal.Record) {
	t.Helper()
	down, full := w.d.Down(), len(frames(append(slices.Clone(w.list), x)...)) > w.size
	e := wal.Add(w.d, x)
	switch {
	case !wal.Formed(x):
		answers(t, "Add", e, api.ErrForm)
	case down:
		answers(t, "Add", e, api.ErrLost)
	case full:
		answers(t, "Add", e, api.ErrFull)
	case w.d.Down():
		answers(t, "Add", e, api.ErrLost)
		w.list = append(w.list, x)
	default:
		answers(t, "Add", e, api.OK)
		w.list = append(w.list, x)
	}
}

func (w *walker) sync() {
	if w.d.Sync() == api.OK {
		w.synced = len(w.list)
	}
}

func (w *walker) compact(t *testing.T, list ...wal.Record) {
	t.Helper()
	down, full := w.d.Down(), len(frames(list...)) > w.size
	e := wal.Compact(w.d, list...)
	switch {
	case slices.ContainsFunc(list, func(x wal.Record) bool { return !wal.Formed(x) }):
		answers(t, "Compact", e, api.ErrForm)
	case down:
		answers(t, "Compact", e, api.ErrLost)
	case full:
		answers(t, "Compact", e, api.ErrFull)
	case w.d.Down():
		answers(t, "Compact", e, api.ErrLost)
		w.torn, w.next = true, slices.Clone(list)
	default:
		answers(t, "Compact", e, api.OK)
		w.list, w.synced = slices.Clone(list), len(list)
	}
}

// cut takes the power, opens what comes of it, and expects the first ones of all that were added.
func (w *walker) cut(t *testing.T, kept int) {
	t.Helper()
	w.d = w.d.Cut(kept)
	switch {
	case w.torn && kept > 0:
		w.list = w.next
	case w.torn:
		w.list = w.list[:w.synced]
	default:
		lasting, n := len(frames(w.list[:w.synced]...)), w.synced
		for n < len(w.list) && len(frames(w.list[:n+1]...)) <= lasting+kept {
			n++
		}
		w.list = w.list[:n]
	}
	w.torn, w.next, w.synced = false, nil, len(w.list)
	expectOpen(t, "behind a cut", w.d, w.list...)
}

func (w *walker) step(t *testing.T, what int) {
	t.Helper()
	some := []wal.Record{
		promised(ballot.Ballot{Round: uint32(w.draw(300)), Node: w.draw(5)}),
		voted(ballot.Ballot{Round: 1}, w.draw(9), commands()[w.draw(8)]),
		learnt(w.draw(70000), commands()[w.draw(8)]),
		snapshot(w.draw(9), strings.Repeat("d", w.draw(40))),
		{Kind: w.draw(12) + 5},
	}
	switch what {
	default:
		w.add(t, some[w.draw(4)])
	case 1:
		w.sync()
	case 2:
		w.d.SetFuse(w.draw(6))
	case 3:
		w.cut(t, w.draw(200))
	case 4:
		w.cut(t, w.draw(2))
	case 5:
		w.compact(t, some[3], some[0])
	case 6:
		w.add(t, some[4])
		w.compact(t, some[0], some[4])
	}
}

func TestLongWalks(t *testing.T) {
	for seed := range 60 {
		w := begun([]int{100, 1000, 20000}[seed%3])
		w.state = uint32(seed)
		for range 300 {
			w.step(t, w.draw(16))
			if w.d.Down() {
				w.cut(t, w.draw(3)*w.draw(60))
			}
		}
		w.cut(t, 0)
	}
}

func TestAllShortWalks(t *testing.T) {
	for walk := range 7 * 7 * 7 * 7 * 7 {
		w := begun(120)
		w.state = uint32(walk)
		for rest := walk; rest > 0; rest /= 7 {
			w.step(t, rest%7)
		}
		w.cut(t, walk%3)
	}
}

func FuzzWalks(f *testing.F) {
	f.Add(uint32(1), []byte{0, 0, 1, 0, 3, 0, 5, 2, 0, 0, 4})
	f.Fuzz(func(t *testing.T, state uint32, steps []byte) {
		w := begun(500)
		w.state = state
		for _, what := range steps[:min(len(steps), 60)] {
			w.step(t, int(what))
		}
		w.cut(t, 9)
	})
}

func FuzzReadOfAnyBytes(f *testing.F) {
	for _, x := range append(formed(), untrue()...) {
		f.Add([]byte(bytesOf(x)))
	}
	f.Fuzz(func(t *testing.T, b []byte) {
		expectWhatIsThere(t, string(b))
		x, e := wal.Read(b)
		if e != api.OK {
			return
		}
		if again, e := wal.Write(x); e != api.OK || !bytes.Equal(again, b) {
			t.Errorf("%x, not %x", again, b)
		}
	})
}

// FuzzOpenOfAnyBytes opens a disk of any bytes behind some frames.
func FuzzOpenOfAnyBytes(f *testing.F) {
	for _, bad := range spoilt() {
		f.Add([]byte(bad))
	}
	f.Add([]byte(frames(formed()[:9]...) + "z"))
	f.Fuzz(func(t *testing.T, b []byte) {
		ahead := []wal.Record{snapshot(7, "ab"), promised(insideBallot[1])}
		d := held(frames(ahead...) + string(b))
		list, e := wal.Open(d)
		answers(t, "Open", e, api.OK)
		if len(list) < 2 || !strings.HasPrefix(frames(ahead...)+string(b), frames(list...)) {
			t.Fatalf("%v", list)
		}
		expectList(t, "ahead", list[:2], ahead)
		expectOpen(t, "again", d, list...)
		rest := (frames(ahead...) + string(b))[len(frames(list...)):]
		if len(rest) < 8 || len(rest) < 8+int(binary.BigEndian.Uint32([]byte(rest))) {
			return
		}
		body := rest[8 : 8+int(binary.BigEndian.Uint32([]byte(rest)))]
		if _, e := wal.Read([]byte(body)); e == api.OK && strings.HasPrefix(rest, framed(body)) {
			t.Errorf("%x is left out", body)
		}
	})
}
