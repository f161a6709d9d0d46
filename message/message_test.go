package message_test

import (
	"bytes"
	"fmt"
	"math"
	"reflect"
	"slices"
	"strings"
	"testing"

	"parish/api"
	"parish/ballot"
	"parish/code"
	"parish/command"
	"parish/message"
	"parish/txn"
	"parish/value"
)

const (
	lastSeq    = 1048576
	lastSlot   = 1000000
	lastNumber = 2147483647
	mostData   = 59900
)

// kinds: the fields that each kind uses, as the chapter's table tells them.
var kinds = map[int]string{
	1:  "Ballot",
	2:  "Ballot Slot Has Voted Command",
	3:  "Ballot",
	4:  "Ballot Slot Command",
	5:  "Ballot Slot",
	6:  "Slot Command",
	7:  "Slot",
	8:  "Txn",
	9:  "Id Group Stamp",
	10: "Id Group Yes",
	11: "Id Group Stamp Yes",
	12: "Number Key Stamp",
	13: "Group Stamp Number Key Version Value Err",
	14: "Number",
	15: "Slot Data",
}

// order: the fields as their bytes follow each other; Voted and Command of a Promise stand in its Has.
var order = strings.Fields("Ballot Slot Has Command Txn Id Group Stamp Yes Number Key Version Value Err Data")

// outsideKind: numbers that are no kind; the last bytes of some are one's.
var outsideKind = []int{0, 16, 17, 127, 255, 256, 257, 263, 271, -1, -15, -241, -255, 1 << 32, 1<<32 + 7, math.MinInt, math.MinInt + 1, math.MaxInt}

func uses(kind int, field string) bool {
	return slices.Contains(strings.Fields(kinds[kind]), field)
}

func id(session, seq int) api.Id {
	return api.Id{Session: session, Seq: seq}
}

func text(s string) api.Value {
	return api.Value{Kind: api.Text, Text: s}
}

func number(x float64) api.Value {
	return api.Value{Kind: api.Num, Bits: math.Float64bits(x)}
}

var outsideIds = []api.Id{{}, {Session: 1}, {Seq: 1}, {Session: 9, Seq: 1}, {Session: -1, Seq: 1}, {Session: 1, Seq: -1}, {Session: 1, Seq: lastSeq + 1}, {Session: 257, Seq: 1}, {Session: 1, Seq: 1<<32 + 1}}

var outsideValues = []api.Value{{Kind: 3}, {Kind: -1}, {Kind: 256}, {Bits: 1}, {Text: "v"}, {Kind: api.Num, Bits: 0xFFF8000000000000}, {Kind: api.Num, Text: "v"}, text("\xFF"), text(strings.Repeat("v", 41))}

// txns: formed transactions, some with lists that are empty, not nil.
func txns() []api.Txn {
	six := api.Txn{Id: id(3, 256)}
	for _, key := range []string{"0", "9", "a", "a0", "aa", "zzzzzzzzzzzz"} {
		six.Reads = append(six.Reads, api.Read{Key: key, Version: math.MaxUint64})
		six.Writes = append(six.Writes, api.Write{Key: key, Value: text("v")})
	}
	return []api.Txn{
		{Id: id(2, 5), Reads: []api.Read{{Key: "a", Version: 3}, {Key: "z"}}, Writes: []api.Write{{Key: "a", Value: text("v")}}},
		{Id: id(1, 2), Reads: []api.Read{{Key: "a"}}},
		{Id: id(8, lastSeq), Reads: []api.Read{}, Writes: []api.Write{{Key: "z"}}},
		six,
	}
}

// outsideTxns: transactions that aren't formed, each for one reason.
func outsideTxns() []api.Txn {
	all := []api.Txn{
		{},
		{Id: id(2, 5)},
		{Id: id(2, 5), Reads: []api.Read{}, Writes: []api.Write{}},
		{Id: id(2, 5), Reads: []api.Read{{Key: "A"}}},
		{Id: id(2, 5), Reads: []api.Read{{Key: "b"}, {Key: "a"}}},
		{Id: id(2, 5), Writes: []api.Write{{Key: "a", Value: text("\xFF")}}},
	}
	for _, x := range outsideIds {
		all = append(all, api.Txn{Id: x, Reads: []api.Read{{Key: "a"}}})
	}
	return all
}

// commands: formed ones of all kinds.
func commands() []command.Command {
	all := []command.Command{
		{},
		{Kind: 2, Id: id(1, 2), Group: 1, Stamp: 7},
		{Kind: 2, Id: id(8, lastSeq), Group: 3, Stamp: math.MaxInt64},
		{Kind: 3, Id: id(1, 2), Group: 3, Yes: true},
		{Kind: 3, Id: id(5, 1), Group: 0},
	}
	for _, x := range txns() {
		all = append(all, command.Command{Kind: 1, Txn: x})
	}
	return all
}

// outsideCommands: commands that aren't formed.
func outsideCommands() []command.Command {
	all := []command.Command{
		{Kind: 4},
		{Kind: -1},
		{Kind: 256},
		{Yes: true},
		{Group: 1},
		{Kind: 1},
		{Kind: 2, Id: id(1, 2), Group: 1},
		{Kind: 2, Id: id(1, 2), Group: 1, Stamp: 1 << 63},
		{Kind: 3, Id: id(1, 2), Group: 4, Yes: true},
		{Kind: 3, Id: id(1, 2), Group: 1, Stamp: 1},
	}
	for _, x := range outsideTxns() {
		all = append(all, command.Command{Kind: 1, Txn: x})
	}
	return all
}

var (
	ballots        = []ballot.Ballot{{Round: 3, Node: 1}, {}, {Node: 4}, {Round: math.MaxUint32, Node: 4}, {Round: 0x01020304, Node: 2}}
	outsideBallots = []ballot.Ballot{{Node: 5}, {Round: 3, Node: -1}, {Round: 3, Node: 256}, {Node: 257}, {Node: math.MinInt}, {Node: math.MaxInt}}
)

type set = func(m *message.Message)

// each answers the setters of a field, one for each of the list.
func each[T any](list []T, put func(m *message.Message, x T)) []set {
	var all []set
	for _, x := range list {
		all = append(all, func(m *message.Message) { put(m, x) })
	}
	return all
}

func setBallot(m *message.Message, x ballot.Ballot)    { m.Ballot = x }
func setSlot(m *message.Message, x int)                { m.Slot = x }
func setCommand(m *message.Message, x command.Command) { m.Command = x }
func setTxn(m *message.Message, x api.Txn)             { m.Txn = x }
func setId(m *message.Message, x api.Id)               { m.Id = x }
func setGroup(m *message.Message, x int)               { m.Group = x }
func setStamp(m *message.Message, x uint64)            { m.Stamp = x }
func setYes(m *message.Message, x bool)                { m.Yes = x }
func setNumber(m *message.Message, x int)              { m.Number = x }
func setKey(m *message.Message, x string)              { m.Key = x }
func setVersion(m *message.Message, x uint64)          { m.Version = x }
func setValue(m *message.Message, x api.Value)         { m.Value = x }
func setErr(m *message.Message, x api.Errno)           { m.Err = x }
func setData(m *message.Message, n int)                { m.Data = bytes.Repeat([]byte{0xA7}, n) }

func setVote(voted ballot.Ballot, x command.Command) set {
	return func(m *message.Message) { m.Has, m.Voted, m.Command = true, voted, x }
}

func setNoVote(voted ballot.Ballot, x command.Command) set {
	return func(m *message.Message) { m.Has, m.Voted, m.Command = false, voted, x }
}

var numbers = []uint64{7, 0, 1, 255, 256, 65536, 0x0102030405060708, math.MaxInt64, 1 << 63, math.MaxUint64}

// inside: for each field, ways to set it to what is formed, at the edges too; the first one is an ordinary one.
func inside() map[string][]set {
	var votes []set
	for _, x := range commands() {
		votes = append(votes, setVote(ballots[0], x))
	}
	for _, x := range ballots {
		votes = append(votes, setVote(x, commands()[5]), setVote(x, command.Command{}))
	}
	return map[string][]set{
		"Ballot":  each(ballots, setBallot),
		"Slot":    each([]int{2, 0, 1, 255, 256, 65536, lastSlot - 1, lastSlot}, setSlot),
		"Has":     append(votes, setNoVote(ballot.Ballot{}, command.Command{})),
		"Command": each(commands(), setCommand),
		"Txn":     each(txns(), setTxn),
		"Id":      each([]api.Id{id(1, 2), id(1, 1), id(8, 1), id(8, lastSeq), id(5, 65536)}, setId),
		"Group":   each([]int{2, 0, 1, 3}, setGroup),
		"Stamp":   each(numbers, setStamp),
		"Yes":     each([]bool{true, false}, setYes),
		"Number":  each([]int{7, 0, 1, 255, 256, 65536, 0x01020304, lastNumber - 1, lastNumber}, setNumber),
		"Key":     each([]string{"a", "z", "0", "9", "a1", "zzzzzzzzzzzz"}, setKey),
		"Version": each(numbers, setVersion),
		"Value":   each([]api.Value{text("v"), {}, text(""), text(strings.Repeat("v", 40)), text("\u00e9\u20ac"), number(1), number(math.Copysign(0, -1)), number(math.Inf(1))}, setValue),
		"Err":     each([]api.Errno{9, 0, 1, 2, 3, 4, 5, 6, 7, 8, 10, 11}, setErr),
		"Data":    each([]int{3, 0, 1, 255, 256, 1000, mostData - 1, mostData}, setData),
	}
}

// outside: for each field, ways to set it to what isn't formed; of some the last bytes are a formed one's.
func outside() map[string][]set {
	var votes []set
	for _, x := range outsideBallots {
		votes = append(votes, setVote(x, command.Command{}), setNoVote(x, command.Command{}))
	}
	for _, x := range outsideCommands() {
		votes = append(votes, setVote(ballots[0], x), setNoVote(ballot.Ballot{}, x))
	}
	for _, x := range commands()[1:] {
		votes = append(votes, setNoVote(ballot.Ballot{}, x))
	}
	for _, x := range []ballot.Ballot{{Round: 1}, {Node: 1}, {Round: 3, Node: 1}} {
		votes = append(votes, setNoVote(x, command.Command{}), setNoVote(x, commands()[1]))
	}
	return map[string][]set{
		"Ballot":  each(outsideBallots, setBallot),
		"Slot":    each([]int{-1, -2, lastSlot + 1, lastSlot + 2, math.MaxInt32, math.MaxUint32, 1 << 32, 1<<32 + 1, math.MinInt, math.MaxInt}, setSlot),
		"Has":     votes,
		"Command": each(outsideCommands(), setCommand),
		"Txn":     each(outsideTxns(), setTxn),
		"Id":      each(outsideIds, setId),
		"Group":   each([]int{4, 5, 255, 256, 257, 259, -1, -2, -4, -256, 1 << 32, math.MinInt, math.MaxInt}, setGroup),
		"Number":  each([]int{-1, -2, lastNumber + 1, lastNumber + 2, math.MaxUint32, 1 << 32, 1<<32 + 7, math.MinInt, math.MaxInt}, setNumber),
		"Key":     each([]string{"A", "a b", "-", "\u00e9", "zzzzzzzzzzzzz", strings.Repeat("a", 70000), "\x00", "`", "{", "/", ":"}, setKey),
		"Value":   each(outsideValues, setValue),
		"Err":     each([]api.Errno{12, 13, 255, 256, 257, 267, -1, -11, math.MinInt, math.MaxInt}, setErr),
		"Data":    each([]int{mostData + 1, mostData + 2, 60000, 65536, 1 << 20}, setData),
	}
}

// extras: for each field, ways to set it to what isn't zero, whether formed or not.
func extras() map[string][]set {
	return map[string][]set{
		"Ballot":  each([]ballot.Ballot{{Round: 1}, {Node: 1}, {Node: -1}}, setBallot),
		"Slot":    each([]int{1, -1, 256, 1 << 32}, setSlot),
		"Has":     {func(m *message.Message) { m.Has = true }},
		"Voted":   each([]ballot.Ballot{{Round: 1}, {Node: 1}, {Node: 256}}, func(m *message.Message, x ballot.Ballot) { m.Voted = x }),
		"Command": each([]command.Command{{Kind: 4}, {Group: 1}, {Yes: true}, {Txn: api.Txn{Id: id(0, 1)}}, {Kind: 3, Id: id(1, 2), Group: 1}}, setCommand),
		"Txn":     each([]api.Txn{{Id: id(1, 0)}, {Id: id(0, 1)}, {Reads: []api.Read{{}}}, {Writes: []api.Write{{}}}, txns()[0]}, setTxn),
		"Id":      each([]api.Id{id(1, 0), id(0, 1), id(1, 2)}, setId),
		"Group":   each([]int{1, -1, 256}, setGroup),
		"Stamp":   each([]uint64{1, math.MaxUint64}, setStamp),
		"Yes":     each([]bool{true}, setYes),
		"Number":  each([]int{1, -1, 1 << 32}, setNumber),
		"Key":     each([]string{"a", "A", "\x00"}, setKey),
		"Version": each([]uint64{1, math.MaxUint64}, setVersion),
		"Value":   each([]api.Value{{Kind: 1}, {Kind: 3}, {Bits: 1}, {Text: "v"}, text("v")}, setValue),
		"Err":     each([]api.Errno{1, 11, -1, 256}, setErr),
		"Data":    each([]int{1, 100}, setData),
	}
}

// ordinary answers a formed message of the kind, with no field that it uses zero.
func ordinary(kind int) message.Message {
	m := message.Message{Kind: kind}
	all := inside()
	for _, field := range order {
		if field == "Command" && uses(kind, "Has") {
			continue
		}
		if uses(kind, field) {
			all[field][0](&m)
		}
	}
	if uses(kind, "Command") {
		m.Command = commands()[5]
	}
	return m
}

func with(m message.Message, put set) message.Message {
	m = clone(m)
	put(&m)
	return m
}

// varied: the ordinary message of each kind, with one of its fields set by each of the ways.
func varied(ways map[string][]set) []message.Message {
	var all []message.Message
	for kind := 1; kind <= 15; kind++ {
		for _, field := range order {
			if !uses(kind, field) || field == "Command" && uses(kind, "Has") {
				continue
			}
			for _, put := range ways[field] {
				all = append(all, with(ordinary(kind), put))
			}
		}
	}
	return all
}

// formed: messages of all kinds, at the edges of what is formed.
func formed() []message.Message {
	all := varied(inside())
	for kind := 1; kind <= 15; kind++ {
		all = append(all, ordinary(kind))
	}
	keyless := ordinary(13)
	keyless.Key = ""
	safe := message.Message{Kind: 13, Stamp: 5, Number: 1}
	return append(all, keyless, safe, message.Message{Kind: 13}, message.Message{Kind: 14}, message.Message{Kind: 15}, message.Message{Kind: 4})
}

// untrue: messages with a field that isn't well, or of no kind, and nothing beside that.
func untrue() []message.Message {
	all := varied(outside())
	keyless := ordinary(12)
	keyless.Key = ""
	all = append(all, keyless)
	for _, kind := range outsideKind {
		all = append(all, message.Message{Kind: kind})
		for like := 1; like <= 15; like++ {
			m := ordinary(like)
			m.Kind = kind
			all = append(all, m)
		}
	}
	return all
}

// overfull: formed messages with one field more than their kind uses.
func overfull() []message.Message {
	var all []message.Message
	for kind := 1; kind <= 15; kind++ {
		for field, ways := range extras() {
			if uses(kind, field) {
				continue
			}
			for _, put := range ways {
				all = append(all, with(ordinary(kind), put))
			}
		}
	}
	return all
}

func misformed() []message.Message {
	return append(untrue(), overfull()...)
}

func cloneTxn(t api.Txn) api.Txn {
	t.Reads, t.Writes = slices.Clone(t.Reads), slices.Clone(t.Writes)
	return t
}

func clone(m message.Message) message.Message {
	m.Txn, m.Command.Txn, m.Data = cloneTxn(m.Txn), cloneTxn(m.Command.Txn), slices.Clone(m.Data)
	return m
}

// alike holds two messages against each other field by field, not by the package.
func alike(a, b message.Message) bool {
	for _, m := range []*message.Message{&a, &b} {
		for _, t := range []*api.Txn{&m.Txn, &m.Command.Txn} {
			if len(t.Reads) == 0 {
				t.Reads = nil
			}
			if len(t.Writes) == 0 {
				t.Writes = nil
			}
		}
		if len(m.Data) == 0 {
			m.Data = nil
		}
	}
	return reflect.DeepEqual(a, b)
}

// show tells a message without all of a great one's bytes.
func show(m message.Message) string {
	s := fmt.Sprintf("%+v", m)
	return s[:min(len(s), 600)]
}

// big answers the n bytes of x, the most significant one first.
func big(x uint64, n int) string {
	b := make([]byte, n)
	for i := range n {
		b[n-1-i] = byte(x >> (8 * i))
	}
	return string(b)
}

func flag(yes bool) string {
	if yes {
		return "\x01"
	}
	return "\x00"
}

func bytesOfBallot(x ballot.Ballot) string {
	return big(uint64(x.Round), 4) + big(uint64(x.Node), 1)
}

// bytesOfField answers a field's bytes as the chapter writes them, of one that isn't formed too; but by layers 4, 8 and 9 where it names these.
func bytesOfField(m message.Message, field string) string {
	switch field {
	case "Ballot":
		return bytesOfBallot(m.Ballot)
	case "Slot":
		return big(uint64(m.Slot), 4)
	case "Has":
		if !m.Has {
			return "\x00"
		}
		return "\x01" + bytesOfBallot(m.Voted) + string(command.Put(nil, m.Command))
	case "Command":
		return string(command.Put(nil, m.Command))
	case "Txn":
		return string(txn.Put(nil, m.Txn))
	case "Id":
		return big(uint64(m.Id.Session), 1) + big(uint64(m.Id.Seq), 4)
	case "Group":
		return big(uint64(m.Group), 1)
	case "Stamp":
		return big(m.Stamp, 8)
	case "Yes":
		return flag(m.Yes)
	case "Number":
		return big(uint64(m.Number), 4)
	case "Key":
		return big(uint64(len(m.Key)), 2) + m.Key
	case "Version":
		return big(m.Version, 8)
	case "Value":
		return string(value.Put(nil, m.Value))
	case "Err":
		return big(uint64(m.Err), 1)
	}
	return big(uint64(len(m.Data)), 4) + string(m.Data)
}

func bytesOf(m message.Message) []byte {
	s := big(uint64(m.Kind), 1)
	for _, field := range order {
		if uses(m.Kind, field) && (field != "Command" || !uses(m.Kind, "Has")) {
			s += bytesOfField(m, field)
		}
	}
	return []byte(s)
}

// cursor goes through bytes by other means than layer 2's, but for what layers 4, 6, 8 and 9 take.
type cursor struct {
	rest []byte
	bad  bool
}

func (c *cursor) next(n int) []byte {
	if c.bad || n > len(c.rest) {
		c.bad = true
		return make([]byte, min(n, 8))
	}
	b := c.rest[:n]
	c.rest = c.rest[n:]
	return b
}

// number answers the number in the next n bytes, which must be from low to high.
func (c *cursor) number(n int, low, high uint64) uint64 {
	var sum uint64
	for _, x := range c.next(n) {
		sum = sum*256 + uint64(x)
	}
	if sum < low || sum > high {
		c.bad = true
	}
	return sum
}

func by[T any](c *cursor, take func(r *code.Reader) T) T {
	r := code.New(c.rest)
	x := take(r)
	if !r.OK() {
		c.bad = true
	} else {
		c.rest = c.rest[len(c.rest)-r.Left():]
	}
	return x
}

func (c *cursor) field(m *message.Message, field string) {
	switch field {
	case "Ballot":
		m.Ballot = by(c, ballot.Take)
	case "Slot":
		m.Slot = int(c.number(4, 0, lastSlot))
	case "Has":
		if m.Has = c.number(1, 0, 1) == 1; m.Has {
			m.Voted = by(c, ballot.Take)
			m.Command = by(c, command.Take)
		}
	case "Command":
		m.Command = by(c, command.Take)
	case "Txn":
		m.Txn = by(c, txn.Take)
	case "Id":
		m.Id.Session = int(c.number(1, 1, 8))
		m.Id.Seq = int(c.number(4, 1, lastSeq))
	case "Group":
		m.Group = int(c.number(1, 0, 3))
	case "Stamp":
		m.Stamp = c.number(8, 0, math.MaxUint64)
	case "Yes":
		m.Yes = c.number(1, 0, 1) == 1
	case "Number":
		m.Number = int(c.number(4, 0, lastNumber))
	case "Key":
		m.Key = string(c.next(int(c.number(2, 0, 12))))
		if !value.Key(m.Key) && (m.Kind != 13 || m.Key != "") {
			c.bad = true
		}
	case "Version":
		m.Version = c.number(8, 0, math.MaxUint64)
	case "Value":
		m.Value = by(c, value.Take)
	case "Err":
		m.Err = api.Errno(c.number(1, 0, 11))
	case "Data":
		m.Data = c.next(int(c.number(4, 0, mostData)))
	}
}

// told answers the message whose bytes b is, by other means than the package's; false, if it is none's.
func told(b []byte) (message.Message, bool) {
	c := &cursor{rest: bytes.Clone(b)}
	m := message.Message{Kind: int(c.number(1, 1, 15))}
	for _, field := range order {
		if !c.bad && uses(m.Kind, field) && (field != "Command" || !uses(m.Kind, "Has")) {
			c.field(&m, field)
		}
	}
	return m, !c.bad && len(c.rest) == 0
}

// expectNone asks that b isn't read, and that nothing stands beside the error.
func expectNone(t *testing.T, b []byte) {
	t.Helper()
	if m, e := message.Read(b); e != api.ErrForm || !alike(m, message.Message{}) {
		t.Errorf("Read of %x: %s, %d", b[:min(len(b), 100)], show(m), e)
	}
}

func expectRead(t *testing.T, b []byte, want message.Message) {
	t.Helper()
	if m, e := message.Read(b); e != api.OK || !alike(m, want) {
		t.Errorf("Read of %x: %s, %d, not %s", b[:min(len(b), 100)], show(m), e, show(want))
	}
}

func expectWhatIsThere(t *testing.T, b []byte) {
	t.Helper()
	if m, ok := told(b); ok {
		expectRead(t, b, m)
	} else {
		expectNone(t, b)
	}
}

// P10.1

func TestKinds(t *testing.T) {
	got := [...]int{
		message.Prepare, message.Promise, message.Nack, message.Accept, message.Accepted,
		message.Learn, message.Ask, message.Submit, message.Stamp, message.Vote,
		message.Outcome, message.Read1, message.Value, message.Safe, message.Snap,
	}
	for i, kind := range got {
		if kind != i+1 {
			t.Errorf("%v", got)
		}
	}
}

func TestFormed(t *testing.T) {
	for _, m := range formed() {
		if !message.Formed(m) {
			t.Errorf("%s isn't formed", show(m))
		}
	}
	for _, m := range misformed() {
		if message.Formed(m) {
			t.Errorf("%s is formed", show(m))
		}
	}
}

// TestFormedOfAnEmptyKey: a Value alone may be without one.
func TestFormedOfAnEmptyKey(t *testing.T) {
	if !message.Formed(message.Message{Kind: message.Value, Number: 1}) {
		t.Errorf("a Value without a key isn't formed")
	}
	if message.Formed(message.Message{Kind: message.Read1, Number: 1}) {
		t.Errorf("a Read without a key is formed")
	}
}

// TestFormedOfVotes: what stands beside Has, of the one kind that uses it.
func TestFormedOfVotes(t *testing.T) {
	noop, some := command.Command{}, command.Command{Kind: command.Vote, Id: id(1, 2)}
	for _, c := range []struct {
		has     bool
		voted   ballot.Ballot
		command command.Command
		want    bool
	}{
		{false, ballot.Ballot{}, noop, true},
		{false, ballot.Ballot{}, some, false},
		{false, ballot.Ballot{Round: 1}, noop, false},
		{false, ballot.Ballot{Node: 1}, noop, false},
		{true, ballot.Ballot{}, noop, true},
		{true, ballot.Ballot{Round: 1}, noop, true},
		{true, ballot.Ballot{Round: 1}, some, true},
		{true, ballot.Ballot{Node: 5}, some, false},
		{true, ballot.Ballot{Round: 1}, command.Command{Kind: 4}, false},
	} {
		m := message.Message{Kind: message.Promise, Slot: 1, Has: c.has, Voted: c.voted, Command: c.command}
		if message.Formed(m) != c.want {
			t.Errorf("%s: %v", show(m), !c.want)
		}
	}
}

// TestLabelByTheKindAlone gives ids in all places to one message, formed or not.
func TestLabelByTheKindAlone(t *testing.T) {
	none, own, inTxn := api.Id{}, id(-5, math.MaxInt), id(3, 4)
	for _, x := range append(commands(), command.Command{Kind: 1, Txn: api.Txn{Id: id(0, 7)}}, command.Command{Kind: 2, Id: id(9, 0)}, command.Command{Kind: 4, Id: id(1, 1), Txn: txns()[0]}) {
		inCommand := command.Label(x)
		want := map[int]api.Id{2: inCommand, 4: inCommand, 6: inCommand, 8: inTxn, 9: own, 10: own, 11: own}
		for _, kind := range append([]int{1, 2, 3, 4, 5, 6, 7, 8, 9, 10, 11, 12, 13, 14, 15}, outsideKind...) {
			for _, has := range []bool{false, true} {
				m := message.Message{Kind: kind, Has: has, Command: x, Txn: api.Txn{Id: inTxn}, Id: own}
				expect := none
				if w, ok := want[kind]; ok {
					expect = w
				}
				if got := message.Label(m); got != expect {
					t.Errorf("%s: %+v, not %+v", show(m), got, expect)
				}
			}
		}
	}
}

func TestLabel(t *testing.T) {
	vote := command.Command{Kind: command.Vote, Id: id(6, 7), Group: 1}
	for _, c := range []struct {
		m    message.Message
		want api.Id
	}{
		{message.Message{Kind: message.Submit, Txn: txns()[0]}, id(2, 5)},
		{message.Message{Kind: message.Stamp, Id: id(1, 2), Stamp: 3}, id(1, 2)},
		{message.Message{Kind: message.Vote, Id: id(1, 2)}, id(1, 2)},
		{message.Message{Kind: message.Outcome, Id: id(1, 2)}, id(1, 2)},
		{message.Message{Kind: message.Promise, Has: true, Command: vote}, id(6, 7)},
		{message.Message{Kind: message.Promise}, api.Id{}},
		{message.Message{Kind: message.Accept, Command: vote}, id(6, 7)},
		{message.Message{Kind: message.Accept, Command: command.Command{Kind: command.Begin, Txn: txns()[1]}}, id(1, 2)},
		{message.Message{Kind: message.Accept}, api.Id{}},
		{message.Message{Kind: message.Learn, Command: vote}, id(6, 7)},
		{message.Message{Kind: message.Learn}, api.Id{}},
		{message.Message{Kind: message.Value, Key: "a", Version: 3}, api.Id{}},
		{message.Message{}, api.Id{}},
	} {
		if got := message.Label(c.m); got != c.want {
			t.Errorf("%s: %+v, not %+v", show(c.m), got, c.want)
		}
	}
}

// turns: for each field, and each part of one, a way to make it another one.
func turns() []set {
	return []set{
		func(m *message.Message) { m.Kind++ },
		func(m *message.Message) { m.Ballot.Round++ },
		func(m *message.Message) { m.Ballot.Node-- },
		func(m *message.Message) { m.Slot++ },
		func(m *message.Message) { m.Has = !m.Has },
		func(m *message.Message) { m.Voted.Round++ },
		func(m *message.Message) { m.Voted.Node++ },
		func(m *message.Message) { m.Command.Kind++ },
		func(m *message.Message) { m.Command.Id.Seq++ },
		func(m *message.Message) { m.Command.Group++ },
		func(m *message.Message) { m.Command.Stamp++ },
		func(m *message.Message) { m.Command.Yes = !m.Command.Yes },
		func(m *message.Message) { m.Command.Txn.Reads = append(m.Command.Txn.Reads, api.Read{}) },
		func(m *message.Message) { m.Command.Txn.Writes = append(m.Command.Txn.Writes, api.Write{}) },
		func(m *message.Message) { m.Txn.Id.Session++ },
		func(m *message.Message) { m.Txn.Reads = append(m.Txn.Reads, api.Read{}) },
		func(m *message.Message) { m.Txn.Writes = append(m.Txn.Writes, api.Write{}) },
		func(m *message.Message) { m.Id.Session-- },
		func(m *message.Message) { m.Id.Seq++ },
		func(m *message.Message) { m.Group-- },
		func(m *message.Message) { m.Stamp-- },
		func(m *message.Message) { m.Yes = !m.Yes },
		func(m *message.Message) { m.Number++ },
		func(m *message.Message) { m.Key += "a" },
		func(m *message.Message) { m.Version++ },
		func(m *message.Message) { m.Value.Kind++ },
		func(m *message.Message) { m.Value.Bits++ },
		func(m *message.Message) { m.Value.Text += "a" },
		func(m *message.Message) { m.Err++ },
		func(m *message.Message) { m.Data = append(m.Data, 0) },
	}
}

func TestSameOfOneFieldTurned(t *testing.T) {
	bases := []message.Message{{}, {Kind: 16}, {Kind: -1, Data: []byte{1}, Txn: txns()[0], Command: commands()[5]}}
	for kind := 1; kind <= 15; kind++ {
		bases = append(bases, ordinary(kind))
	}
	for _, m := range bases {
		if !message.Same(m, clone(m)) {
			t.Errorf("%s isn't as itself", show(m))
		}
		for i, turn := range turns() {
			if n := with(m, turn); message.Same(m, n) || message.Same(n, m) {
				t.Errorf("turned at %d: %s is as %s", i, show(m), show(n))
			}
		}
	}
}

func TestSameOfMembersOfLists(t *testing.T) {
	m := message.Message{Kind: 8, Txn: txns()[0], Command: commands()[5], Data: []byte{1, 2}}
	for i, turn := range []set{
		func(m *message.Message) { m.Txn.Reads[1].Key = "y" },
		func(m *message.Message) { m.Txn.Reads[0].Version = 4 },
		func(m *message.Message) { m.Txn.Writes[0].Value.Text = "w" },
		func(m *message.Message) { m.Command.Txn.Reads[0].Key = "0" },
		func(m *message.Message) { m.Command.Txn.Writes[0].Key = "b" },
		func(m *message.Message) { m.Data[1] = 3 },
		func(m *message.Message) { m.Data[0] = 0 },
		func(m *message.Message) { m.Data = m.Data[:1] },
		func(m *message.Message) { m.Data = nil },
		func(m *message.Message) { m.Txn.Reads = m.Txn.Reads[:1] },
	} {
		if n := with(m, turn); message.Same(m, n) || message.Same(n, m) {
			t.Errorf("turned at %d: %s is as %s", i, show(m), show(n))
		}
	}
}

func TestSameOfAllPairs(t *testing.T) {
	var all []message.Message
	for _, m := range formed() {
		if len(m.Data) < 1000 {
			all = append(all, m)
		}
	}
	for _, m := range all {
		for _, n := range all {
			if got := message.Same(m, n); got != alike(m, n) {
				t.Errorf("Same(%s, %s) = %v", show(m), show(n), got)
			}
		}
	}
}

// A list of none may be nil or empty, and means the same.
func TestNilAndEmptyLists(t *testing.T) {
	for kind := range 17 {
		n := message.Message{Kind: kind}
		if kinds[kind] != "" {
			n = ordinary(kind)
		}
		if kind == message.Snap {
			n.Data = nil
		}
		e := clone(n)
		if len(e.Data) == 0 {
			e.Data = make([]byte, 0, 3)
		}
		for _, x := range []*api.Txn{&e.Txn, &e.Command.Txn} {
			if x.Id.Session == 0 {
				x.Reads, x.Writes = make([]api.Read, 0, 3), make([]api.Write, 0, 3)
			}
		}
		if !message.Same(n, e) || !message.Same(e, n) || message.Formed(n) != message.Formed(e) || message.Formed(n) != (kinds[kind] != "") {
			t.Errorf("%s: Same %v, Formed %v, %v", show(n), message.Same(n, e), message.Formed(n), message.Formed(e))
		}
		a, ea := message.Write(n)
		b, eb := message.Write(e)
		if !bytes.Equal(a, b) || ea != eb {
			t.Errorf("%s: %x, %d, and %x, %d", show(n), a, ea, b, eb)
		}
	}
	for _, none := range [][]byte{nil, {}} {
		if _, e := message.Read(none); e != api.ErrForm {
			t.Errorf("Read of nothing: %d", e)
		}
	}
}

// written: messages and their bytes, byte by byte; the first two are the examples of the chapter.
func written() []struct {
	m     message.Message
	bytes string
} {
	one := id(1, 2)
	vote := command.Command{Kind: command.Vote, Id: id(6, 7), Group: 3, Yes: true}
	votes := "\x03\x06\x00\x00\x00\x07\x03\x01"
	return []struct {
		m     message.Message
		bytes string
	}{
		{message.Message{Kind: 1, Ballot: ballot.Ballot{Round: 3, Node: 1}}, "\x01\x00\x00\x00\x03\x01"},
		{message.Message{Kind: 14, Number: 7}, "\x0e\x00\x00\x00\x07"},
		{message.Message{Kind: 2, Ballot: ballot.Ballot{Round: 1, Node: 2}, Slot: 258}, "\x02\x00\x00\x00\x01\x02\x00\x00\x01\x02\x00"},
		{message.Message{Kind: 2, Ballot: ballot.Ballot{Round: 1}, Slot: 2, Has: true, Voted: ballot.Ballot{Round: 9, Node: 4}, Command: vote}, "\x02\x00\x00\x00\x01\x00\x00\x00\x00\x02\x01\x00\x00\x00\x09\x04" + votes},
		{message.Message{Kind: 2, Has: true}, "\x02\x00\x00\x00\x00\x00\x00\x00\x00\x00\x01\x00\x00\x00\x00\x00\x00"},
		{message.Message{Kind: 3, Ballot: ballot.Ballot{Round: math.MaxUint32, Node: 4}}, "\x03\xff\xff\xff\xff\x04"},
		{message.Message{Kind: 4, Ballot: ballot.Ballot{Round: 1, Node: 1}, Slot: 1, Command: vote}, "\x04\x00\x00\x00\x01\x01\x00\x00\x00\x01" + votes},
		{message.Message{Kind: 5, Ballot: ballot.Ballot{Round: 1, Node: 1}, Slot: lastSlot}, "\x05\x00\x00\x00\x01\x01\x00\x0f\x42\x40"},
		{message.Message{Kind: 6, Slot: 1}, "\x06\x00\x00\x00\x01\x00"},
		{message.Message{Kind: 6, Slot: 1, Command: vote}, "\x06\x00\x00\x00\x01" + votes},
		{message.Message{Kind: 7, Slot: 5}, "\x07\x00\x00\x00\x05"},
		{message.Message{Kind: 8, Txn: txns()[0]}, "\x08" + "\x02\x00\x00\x00\x05" + "\x02" + "\x00\x01a\x00\x00\x00\x00\x00\x00\x00\x03" + "\x00\x01z\x00\x00\x00\x00\x00\x00\x00\x00" + "\x01" + "\x00\x01a\x02\x00\x01v"},
		{message.Message{Kind: 9, Id: one, Group: 3, Stamp: 0x0102030405060708}, "\x09\x01\x00\x00\x00\x02\x03\x01\x02\x03\x04\x05\x06\x07\x08"},
		{message.Message{Kind: 10, Id: one, Group: 2, Yes: true}, "\x0a\x01\x00\x00\x00\x02\x02\x01"},
		{message.Message{Kind: 11, Id: one, Group: 1, Stamp: 5, Yes: true}, "\x0b\x01\x00\x00\x00\x02\x01\x00\x00\x00\x00\x00\x00\x00\x05\x01"},
		{message.Message{Kind: 12, Number: 515, Key: "ab", Stamp: 6}, "\x0c\x00\x00\x00\x00\x00\x00\x00\x06\x00\x00\x02\x03\x00\x02ab"},
		{message.Message{Kind: 13, Group: 3, Stamp: 4, Number: lastNumber, Key: "z9", Version: 1 << 63, Value: text("v"), Err: api.ErrState}, "\x0d\x03\x00\x00\x00\x00\x00\x00\x00\x04\x7f\xff\xff\xff\x00\x02z9\x80\x00\x00\x00\x00\x00\x00\x00\x02\x00\x01v\x0b"},
		{message.Message{Kind: 13, Stamp: 4, Number: 1}, "\x0d\x00\x00\x00\x00\x00\x00\x00\x00\x04\x00\x00\x00\x01\x00\x00\x00\x00\x00\x00\x00\x00\x00\x00\x00\x00"},
		{message.Message{Kind: 15, Slot: 1, Data: []byte{9, 0, 255}}, "\x0f\x00\x00\x00\x01\x00\x00\x00\x03\x09\x00\xff"},
		{message.Message{Kind: 15, Slot: 1}, "\x0f\x00\x00\x00\x01\x00\x00\x00\x00"},
	}
}

func TestWriteAndReadOfWrittenMessages(t *testing.T) {
	for _, c := range written() {
		if b, e := message.Write(c.m); string(b) != c.bytes || e != api.OK {
			t.Errorf("Write of %s: %x, %d", show(c.m), b, e)
		}
		expectRead(t, []byte(c.bytes), c.m)
	}
}

func TestWrite(t *testing.T) {
	for _, m := range formed() {
		if b, e := message.Write(m); e != api.OK || !bytes.Equal(b, bytesOf(m)) {
			t.Errorf("Write of %s: %x, %d", show(m), b[:min(len(b), 100)], e)
		}
	}
	for _, m := range misformed() {
		if b, e := message.Write(m); e != api.ErrForm || len(b) != 0 {
			t.Errorf("Write of %s: %x, %d", show(m), b[:min(len(b), 100)], e)
		}
	}
}

func TestRead(t *testing.T) {
	for _, m := range formed() {
		expectRead(t, bytesOf(m), m)
	}
}

// TestReadOfBytesOfNone lays out the bytes of messages that aren't formed; some are another one's, where a number has more than its bytes.
func TestReadOfBytesOfNone(t *testing.T) {
	for _, m := range misformed() {
		expectWhatIsThere(t, bytesOf(m))
	}
	for _, s := range []string{
		"",
		"\x00",
		"\x10",
		"\xff\x00\x00\x00\x03\x01",
		"\x01\x00\x00\x00\x03\x05",
		"\x02\x00\x00\x00\x01\x00\x00\x00\x00\x02\x02",
		"\x02\x00\x00\x00\x01\x00\x00\x00\x00\x02\xff\x00\x00\x00\x09\x04\x00",
		"\x02\x00\x00\x00\x01\x00\x00\x00\x00\x02\x00\x00\x00\x00\x00\x00\x00",
		"\x02\x00\x00\x00\x01\x00\x00\x00\x00\x02\x01\x00\x00\x00\x09\x05\x00",
		"\x02\x00\x00\x00\x01\x00\x00\x00\x00\x02\x01\x00\x00\x00\x09\x04\x04",
		"\x06\x00\x00\x00\x01\x04",
		"\x07\x00\x0f\x42\x41",
		"\x07\xff\xff\xff\xff",
		"\x08\x02\x00\x00\x00\x05\x00\x00",
		"\x09\x01\x00\x00\x00\x02\x04\x00\x00\x00\x00\x00\x00\x00\x05",
		"\x09\x09\x00\x00\x00\x02\x03\x00\x00\x00\x00\x00\x00\x00\x05",
		"\x0a\x01\x00\x00\x00\x02\x02\x02",
		"\x0a\x01\x00\x10\x00\x01\x02\x01",
		"\x0b\x01\x00\x00\x00\x02\x01\x00\x00\x00\x00\x00\x00\x00\x05\xff",
		"\x0c\x00\x00\x00\x00\x00\x00\x00\x06\x00\x00\x00\x01\x00\x00",
		"\x0c\x00\x00\x00\x00\x00\x00\x00\x06\x80\x00\x00\x00\x00\x01a",
		"\x0c\x00\x00\x00\x00\x00\x00\x00\x06\x00\x00\x00\x01\x00\x01A",
		"\x0c\x00\x00\x00\x00\x00\x00\x00\x06\x00\x00\x00\x01\x00\x0dzzzzzzzzzzzzz",
		"\x0d\x00\x00\x00\x00\x00\x00\x00\x00\x04\x00\x00\x00\x01\x00\x00\x00\x00\x00\x00\x00\x00\x00\x00\x00\x0c",
		"\x0d\x00\x00\x00\x00\x00\x00\x00\x00\x04\x00\x00\x00\x01\x00\x00\x00\x00\x00\x00\x00\x00\x00\x00\x03\x00",
		"\x0e\x80\x00\x00\x00",
		"\x0f\x00\x00\x00\x01\x00\x00\x00\x02\x09",
		"\x0f\x00\x00\x00\x01\x00\x00\x00\x00\x09",
		"\x0f\x00\x00\x00\x01\xff\xff\xff\xff\x09",
		"\x0f\x00\x0f\x42\x41\x00\x00\x00\x00",
	} {
		expectNone(t, []byte(s))
	}
}

// TestReadOfData: how many bytes they are, at the edges, and what is said of that.
func TestReadOfData(t *testing.T) {
	for _, n := range []int{0, 1, mostData - 1, mostData, mostData + 1, 60000, 70000} {
		data := strings.Repeat("d", n)
		for _, says := range []int{n - 1, n, n + 1, mostData, mostData + 1} {
			if says < 0 {
				continue
			}
			b := []byte("\x0f\x00\x00\x00\x01" + big(uint64(says), 4) + data)
			if says == n && n <= mostData {
				expectRead(t, b, message.Message{Kind: message.Snap, Slot: 1, Data: []byte(data)})
			} else {
				expectNone(t, b)
			}
		}
	}
}

func TestReadOfTooFewAndTooManyBytes(t *testing.T) {
	for _, m := range formed() {
		b := bytesOf(m)
		if len(b) > 1000 {
			continue
		}
		for n := range len(b) {
			expectNone(t, b[:n])
		}
		for _, behind := range []string{"\x00", "\x01", "\xff", "behind it"} {
			expectNone(t, append(bytesOf(m), behind...))
		}
		expectNone(t, append(bytesOf(m), b...))
	}
}

// TestReadOfTurnedBytes sets each byte of some messages to each other one.
func TestReadOfTurnedBytes(t *testing.T) {
	for _, c := range written() {
		for i := range len(c.bytes) {
			for turned := range 256 {
				b := []byte(c.bytes)
				b[i] = byte(turned)
				expectWhatIsThere(t, b)
				expectWhatIsThere(t, append(b, 0))
			}
		}
	}
}

func TestArgumentsAreLeft(t *testing.T) {
	for _, m := range append(formed(), misformed()...) {
		before := clone(m)
		message.Formed(m)
		message.Label(m)
		message.Same(m, m)
		message.Write(m)
		if !alike(m, before) {
			t.Errorf("%s was %s", show(m), show(before))
		}
	}
	for _, c := range written() {
		room := append([]byte(c.bytes), 0xEE, 0xEE)
		before := bytes.Clone(room)
		message.Read(room[:len(c.bytes)])
		if !bytes.Equal(room, before) {
			t.Errorf("what was handed in is %x, and was %x", room, before)
		}
	}
}

func TestWriteIsNewMemory(t *testing.T) {
	for _, c := range written() {
		m := clone(c.m)
		m.Data = append(m.Data, 0xEE, 0xEE)[:len(m.Data)]
		first, _ := message.Write(m)
		second, _ := message.Write(m)
		_ = append(first, "more"...)
		for i := range first {
			first[i] = 0xDD
		}
		if string(second) != c.bytes || !alike(m, c.m) || !bytes.Equal(m.Data[:len(m.Data)+2][len(m.Data):], []byte{0xEE, 0xEE}) {
			t.Errorf("%s: %x", show(m), second)
		}
		clear(m.Data)
		if string(second) != c.bytes {
			t.Errorf("the message's bytes are the answer's too: %x", second)
		}
	}
}

func TestReadIsNewMemory(t *testing.T) {
	for _, c := range written() {
		b := []byte(c.bytes)
		first, _ := message.Read(b)
		second, _ := message.Read(b)
		clear(first.Data)
		clear(first.Txn.Reads)
		clear(first.Txn.Writes)
		for i := range b {
			b[i] = 0xFF
		}
		if !alike(second, c.m) {
			t.Errorf("%s, not %s", show(second), show(c.m))
		}
	}
}

// P10.2

func TestWhatIsWrittenIsRead(t *testing.T) {
	for _, m := range formed() {
		b, e := message.Write(m)
		if e != api.OK {
			t.Errorf("Write of %s: %d", show(m), e)
		}
		if n, e := message.Read(b); e != api.OK || !message.Same(n, m) || !alike(n, m) {
			t.Errorf("%s was %s, %d", show(n), show(m), e)
		}
	}
}

func TestNoTwoHaveTheSameBytes(t *testing.T) {
	met := map[string]message.Message{}
	for _, m := range formed() {
		b, _ := message.Write(m)
		if n, ok := met[string(b)]; ok && !alike(m, n) {
			t.Errorf("%s and %s have the same bytes", show(m), show(n))
		}
		met[string(b)] = m
	}
}

// TestOfAllShortBytes goes through all rows of two bytes, and some of a kind's length with one byte all through.
func TestOfAllShortBytes(t *testing.T) {
	for x := range 65536 {
		expectWhatIsThere(t, []byte{byte(x >> 8), byte(x)})
	}
	for kind := range 256 {
		for n := range 40 {
			for _, c := range []byte{0, 1, 2, 255} {
				expectWhatIsThere(t, append([]byte{byte(kind)}, bytes.Repeat([]byte{c}, n)...))
			}
		}
	}
}

func FuzzReadOfAnyBytes(f *testing.F) {
	for _, m := range append(formed(), untrue()...) {
		if b := bytesOf(m); len(b) < 1000 {
			f.Add(b)
		}
	}
	f.Fuzz(func(t *testing.T, b []byte) {
		expectWhatIsThere(t, b)
		m, e := message.Read(b)
		if e != api.OK {
			return
		}
		again, e := message.Write(m)
		if !message.Formed(m) || e != api.OK || !bytes.Equal(again, b) {
			t.Errorf("%s: %x, %d, not %x", show(m), again, e, b)
		}
	})
}

// FuzzMessages sets the plain fields of a kind's ordinary message, those that it uses, or all of them.
func FuzzMessages(f *testing.F) {
	for kind := range 17 {
		f.Add(kind, false, uint32(3), 1, 2, true, 2, uint64(7), 9, "a", 9, []byte("data"))
	}
	f.Add(13, false, uint32(0), 0, 0, false, 0, uint64(0), 0, "", 0, []byte{})
	f.Add(15, true, uint32(0), 0, lastSlot, false, 0, uint64(0), 0, "", 0, []byte{})
	f.Fuzz(func(t *testing.T, kind int, all bool, round uint32, node, slot int, yes bool, group int, n uint64, num int, key string, e int, data []byte) {
		m := message.Message{Kind: kind}
		if kinds[kind] != "" {
			m = ordinary(kind)
		}
		for field, put := range map[string]set{
			"Ballot":  func(m *message.Message) { m.Ballot = ballot.Ballot{Round: round, Node: node} },
			"Slot":    func(m *message.Message) { m.Slot = slot },
			"Group":   func(m *message.Message) { m.Group = group },
			"Stamp":   func(m *message.Message) { m.Stamp = n },
			"Yes":     func(m *message.Message) { m.Yes = yes },
			"Number":  func(m *message.Message) { m.Number = num },
			"Key":     func(m *message.Message) { m.Key = key },
			"Version": func(m *message.Message) { m.Version = n },
			"Err":     func(m *message.Message) { m.Err = api.Errno(e) },
			"Data":    func(m *message.Message) { m.Data = data },
		} {
			if all || uses(kind, field) {
				put(&m)
			}
		}
		before := clone(m)
		// The bytes of a message that isn't formed tell another one, or none.
		back, ok := told(bytesOf(m))
		want := ok && alike(back, m)
		if message.Formed(m) != want {
			t.Fatalf("Formed(%s) = %v", show(m), !want)
		}
		b, errno := message.Write(m)
		if want {
			expectRead(t, b, m)
		} else if errno != api.ErrForm || len(b) != 0 {
			t.Errorf("Write of %s: %x, %d", show(m), b, errno)
		}
		if !alike(m, before) || !message.Same(m, before) {
			t.Errorf("%s was %s", show(m), show(before))
		}
	})
}
