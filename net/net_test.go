package net_test

import (
	"bytes"
	"cmp"
	"fmt"
	"math"
	"slices"
	"strings"
	"testing"

	"parish/net"
)

// most is how many packets a bag has at most.
const most = 64

// edges: numbers that no packet of a bag of up to five has.
var edges = []int{-1, -2, -64, 5, 6, 63, 64, 65, -1 << 32, 1 << 32, math.MinInt, math.MinInt + 1, math.MaxInt - 1, math.MaxInt}

// addresses: some of places and of sessions, and some of neither.
var addresses = []int{0, 1, 2, 19, 99, 100, 107, -1, -2, 1 << 40, math.MinInt, math.MaxInt}

// packet is one in flight.
type packet struct {
	link net.Link
	text string
}

// model tells what a net must have: all its packets in one row, those of a link in the order of its bag.
type model []packet

// of answers where in the row the packets of a link stand.
func (m model) of(l net.Link) []int {
	var places []int
	for i, p := range m {
		if p.link == l {
			places = append(places, i)
		}
	}
	return places
}

func (m *model) send(l net.Link, text string) bool {
	room := len(m.of(l)) < most
	if room {
		*m = append(*m, packet{l, text})
	}
	return room
}

func (m *model) take(l net.Link, at int) (string, bool) {
	places := m.of(l)
	if at < 0 || at >= len(places) {
		return "", false
	}
	text := (*m)[places[at]].text
	*m = slices.Concat((*m)[:places[at]], (*m)[places[at]+1:])
	return text, true
}

func (m *model) double(l net.Link, at int) bool {
	places := m.of(l)
	return at >= 0 && at < len(places) && m.send(l, (*m)[places[at]].text)
}

// move lets a packet change with its neighbour, until it has come to its number.
func (m *model) move(l net.Link, at, where int) bool {
	places := m.of(l)
	if min(at, where) < 0 || max(at, where) >= len(places) {
		return false
	}
	for at != where {
		next := at + cmp.Compare(where, at)
		(*m)[places[at]], (*m)[places[next]] = (*m)[places[next]], (*m)[places[at]]
		at = next
	}
	return true
}

func (m *model) clear(to int) int {
	var left model
	for _, p := range *m {
		if p.link.To != to {
			left = append(left, p)
		}
	}
	gone := len(*m) - len(left)
	*m = left
	return gone
}

// links answers those that have packets, sorted by insertion.
func (m model) links() []net.Link {
	var list []net.Link
	for _, p := range m {
		i := 0
		for i < len(list) && (list[i].From < p.link.From || list[i].From == p.link.From && list[i].To < p.link.To) {
			i++
		}
		if i == len(list) || list[i] != p.link {
			list = slices.Insert(list, i, p.link)
		}
	}
	return list
}

func (m model) bag(l net.Link) []string {
	var texts []string
	for _, i := range m.of(l) {
		texts = append(texts, m[i].text)
	}
	return texts
}

// texts answers packets as texts.
func texts(bag [][]byte) []string {
	var list []string
	for _, b := range bag {
		list = append(list, string(b))
	}
	return list
}

// expect asks a net all that can be asked of it, and expects what the model tells; other links, which have none, too.
func expect(t *testing.T, n *net.Net, m model, others ...net.Link) {
	t.Helper()
	if got := n.Links(); !slices.Equal(got, m.links()) {
		t.Errorf("Links: %v, not %v", got, m.links())
	}
	if got := n.Count(); got != len(m) {
		t.Errorf("Count: %d, not %d", got, len(m))
	}
	for _, l := range append(m.links(), others...) {
		if got := texts(n.Bag(l.From, l.To)); !slices.Equal(got, m.bag(l)) {
			t.Errorf("Bag of %v: %q, not %q", l, got, m.bag(l))
		}
	}
}

// sent answers a net to which those texts were sent, each on the link 1, 2.
func sent(t *testing.T, packets ...string) (*net.Net, model) {
	t.Helper()
	n, m := net.New(), model{}
	for _, s := range packets {
		if !n.Send(1, 2, []byte(s)) || !m.send(net.Link{From: 1, To: 2}, s) {
			t.Errorf("%q was lost", s)
		}
	}
	return n, m
}

// numbered answers count texts: p0, p1 and so on.
func numbered(count int) []string {
	var list []string
	for i := range count {
		list = append(list, fmt.Sprintf("p%d", i))
	}
	return list
}

// P11.1

func TestNewHasNoPackets(t *testing.T) {
	for _, n := range []*net.Net{net.New(), {}, new(net.Net)} {
		for _, at := range append(edges, 0, 1) {
			if b, ok := n.Take(1, 2, at); len(b) != 0 || ok || n.Double(1, 2, at) || n.Move(1, 2, at, at) || n.Move(1, 2, at, 0) {
				t.Errorf("at %d there is one", at)
			}
		}
		for _, a := range addresses {
			if n.Clear(a) != 0 {
				t.Errorf("Clear of %d", a)
			}
		}
		expect(t, n, nil, net.Link{From: 1, To: 2}, net.Link{})
	}
}

// A net that New didn't make is one without packets.
func TestZeroNetIsUsedLikeANewOne(t *testing.T) {
	var n net.Net
	if !n.Send(1, 2, []byte("a")) || !n.Double(1, 2, 0) {
		t.Error("Send")
	}
	expect(t, &n, model{{net.Link{From: 1, To: 2}, "a"}, {net.Link{From: 1, To: 2}, "a"}})
}

func TestExamples(t *testing.T) {
	n, _ := sent(t, "a", "b")
	if !n.Move(1, 2, 1, 0) {
		t.Error("Move")
	}
	if got := texts(n.Bag(1, 2)); !slices.Equal(got, []string{"b", "a"}) {
		t.Errorf("%q", got)
	}
	if b, ok := n.Take(1, 2, 1); string(b) != "a" || !ok {
		t.Errorf("%q, %v", b, ok)
	}
}

func TestSendPutsThePacketLast(t *testing.T) {
	n, m := net.New(), model{}
	for _, s := range numbered(most) {
		if !n.Send(1, 2, []byte(s)) {
			t.Errorf("%s was lost", s)
		}
		m.send(net.Link{From: 1, To: 2}, s)
		expect(t, n, m)
	}
}

func TestSendToAFullBagIsLost(t *testing.T) {
	n, m := sent(t, numbered(most)...)
	for range 3 {
		if n.Send(1, 2, []byte("lost")) || n.Send(1, 2, nil) {
			t.Error("there was room")
		}
		expect(t, n, m)
	}
	for _, l := range []net.Link{{From: 2, To: 1}, {From: 1, To: 3}, {From: 0, To: 2}, {From: 1, To: 1}} {
		if !n.Send(l.From, l.To, []byte("other")) || !m.send(l, "other") {
			t.Errorf("there was no room on %v", l)
		}
		expect(t, n, m)
	}
}

func TestSendWhereThereIsRoomAnew(t *testing.T) {
	n, m := sent(t, numbered(most)...)
	l := net.Link{From: 1, To: 2}
	for _, at := range []int{0, most - 1, 30} {
		n.Take(1, 2, at)
		m.take(l, at)
		for range 2 {
			if got, want := n.Send(1, 2, []byte("anew")), m.send(l, "anew"); got != want {
				t.Errorf("Send: %v, not %v", got, want)
			}
		}
		expect(t, n, m)
	}
	n.Clear(2)
	if !n.Send(1, 2, []byte("alone")) {
		t.Error("there was no room behind Clear")
	}
	expect(t, n, model{{l, "alone"}})
}

func TestPacketsAreAnyBytes(t *testing.T) {
	var all []byte
	for i := range 256 {
		all = append(all, byte(i))
	}
	packets := []string{"", "\x00", "\xFF\xFE", string(all), "", strings.Repeat("long", 50000), "\xE2\x82"}
	n, m := sent(t, packets...)
	n.Send(1, 2, nil)
	n.Send(1, 2, make([]byte, 0, 9))
	expect(t, n, append(m, packet{net.Link{From: 1, To: 2}, ""}, packet{net.Link{From: 1, To: 2}, ""}))
	for i, s := range append(packets, "", "") {
		if b, ok := n.Take(1, 2, 0); string(b) != s || !ok {
			t.Errorf("packet %d: %d bytes, %v", i, len(b), ok)
		}
	}
	expect(t, n, nil)
}

func TestAddressesAreAnyNumbers(t *testing.T) {
	n, m := net.New(), model{}
	for _, from := range addresses {
		for _, to := range addresses {
			s := fmt.Sprint(from, to)
			if !n.Send(from, to, []byte(s)) {
				t.Errorf("from %d to %d: no room", from, to)
			}
			m.send(net.Link{From: from, To: to}, s)
		}
	}
	expect(t, n, m)
}

func TestLinksRise(t *testing.T) {
	want := []net.Link{
		{From: math.MinInt, To: math.MaxInt}, {From: -1, To: 5}, {From: 0, To: -7}, {From: 0, To: 0}, {From: 0, To: 2}, {From: 0, To: 10},
		{From: 2, To: 0}, {From: 2, To: 1}, {From: 10, To: -9}, {From: 10, To: 0}, {From: 99, To: 1}, {From: math.MaxInt, To: math.MinInt},
	}
	for first := range want {
		for _, step := range []int{1, 5, 7, 11} {
			n := net.New()
			for i := range want {
				l := want[(first+step*i)%len(want)]
				n.Send(l.From, l.To, nil)
				n.Send(l.From, l.To, nil)
			}
			for range 3 {
				if got := n.Links(); !slices.Equal(got, want) {
					t.Errorf("%v", got)
				}
			}
		}
	}
}

// TestLinksWithoutPackets: those whose last packet went out have none.
func TestLinksWithoutPackets(t *testing.T) {
	n, m := sent(t, "a", "b")
	n.Send(2, 1, []byte("c"))
	m.send(net.Link{From: 2, To: 1}, "c")
	for _, l := range []net.Link{{From: 1, To: 2}, {From: 1, To: 2}, {From: 2, To: 1}} {
		n.Take(l.From, l.To, 0)
		m.take(l, 0)
		expect(t, n, m, net.Link{From: 1, To: 2}, net.Link{From: 2, To: 1})
	}
}

// P11.2

func TestTakeOfEachNumber(t *testing.T) {
	l := net.Link{From: 1, To: 2}
	for count := range 6 {
		for at := range count {
			n, m := sent(t, numbered(count)...)
			n.Send(2, 1, []byte("other"))
			m.send(net.Link{From: 2, To: 1}, "other")
			want, _ := m.take(l, at)
			if b, ok := n.Take(1, 2, at); string(b) != want || !ok {
				t.Errorf("Take of %d of %d: %q, %v", at, count, b, ok)
			}
			expect(t, n, m, l)
		}
	}
}

func TestTakeUntilNoneIsLeft(t *testing.T) {
	l := net.Link{From: 1, To: 2}
	for _, at := range []func(left int) int{
		func(int) int { return 0 },
		func(left int) int { return left - 1 },
		func(left int) int { return left / 2 },
		func(left int) int { return left * 7 / 9 },
	} {
		n, m := sent(t, numbered(most)...)
		for left := most; left > 0; left-- {
			want, _ := m.take(l, at(left))
			if b, ok := n.Take(1, 2, at(left)); string(b) != want || !ok {
				t.Errorf("Take of %d of %d: %q, %v", at(left), left, b, ok)
			}
			expect(t, n, m, l)
		}
		if b, ok := n.Take(1, 2, 0); len(b) != 0 || ok {
			t.Errorf("%q, %v", b, ok)
		}
	}
}

// TestWhatIsNotThere asks for packets that aren't there, on a link that has some and on others: nothing changes.
func TestWhatIsNotThere(t *testing.T) {
	for _, count := range []int{0, 1, 4, 5} {
		n, m := sent(t, numbered(count)...)
		for _, at := range append(edges, count) {
			if b, ok := n.Take(1, 2, at); len(b) != 0 || ok {
				t.Errorf("Take of %d of %d: %q, %v", at, count, b, ok)
			}
			if n.Double(1, 2, at) {
				t.Errorf("Double of %d of %d", at, count)
			}
			for _, there := range append([]int{0, 1, count - 1, count}, edges...) {
				if n.Move(1, 2, at, there) || n.Move(1, 2, there, at) {
					t.Errorf("Move of %d and %d of %d", at, there, count)
				}
			}
			expect(t, n, m)
		}
		for _, l := range []net.Link{{From: 2, To: 1}, {From: 1, To: 1}, {From: 2, To: 2}, {From: 1, To: 3}, {From: 0, To: 2}} {
			if b, ok := n.Take(l.From, l.To, 0); len(b) != 0 || ok || n.Double(l.From, l.To, 0) || n.Move(l.From, l.To, 0, 0) {
				t.Errorf("on %v: %q, %v", l, b, ok)
			}
			expect(t, n, m, l)
		}
	}
}

func TestDoubleOfEachNumber(t *testing.T) {
	l := net.Link{From: 1, To: 2}
	for _, count := range []int{1, 2, 3, 5, most - 1} {
		for at := range count {
			n, m := sent(t, numbered(count)...)
			if !n.Double(1, 2, at) {
				t.Errorf("Double of %d of %d", at, count)
			}
			m.double(l, at)
			expect(t, n, m, net.Link{From: 2, To: 1})
		}
	}
}

func TestDoubleUntilTheBagIsFull(t *testing.T) {
	l := net.Link{From: 1, To: 2}
	n, m := sent(t, "a", "b", "c")
	for i := range most + 3 {
		at := i % 3
		if got, want := n.Double(1, 2, at), m.double(l, at); got != want || want != (i+3 < most) {
			t.Errorf("Double number %d: %v", i, got)
		}
		expect(t, n, m)
	}
	for at := range most {
		if n.Double(1, 2, at) {
			t.Errorf("Double of %d of a full bag", at)
		}
	}
	expect(t, n, m)
	n.Take(1, 2, 0)
	m.take(l, 0)
	if !n.Double(1, 2, most-2) || !m.double(l, most-2) {
		t.Error("there was no room anew")
	}
	expect(t, n, m)
}

func TestMoveOfAllPairs(t *testing.T) {
	l := net.Link{From: 1, To: 2}
	for _, count := range []int{1, 2, 3, 5, 7, most} {
		for at := range count {
			for where := range count {
				n, m := sent(t, numbered(count)...)
				if !n.Move(1, 2, at, where) {
					t.Errorf("Move of %d to %d of %d", at, where, count)
				}
				if got := n.Bag(1, 2)[where]; string(got) != fmt.Sprintf("p%d", at) {
					t.Errorf("Move of %d to %d of %d: %q is there", at, where, count, got)
				}
				m.move(l, at, where)
				expect(t, n, m)
			}
		}
	}
}

// TestMoveOfWrittenBags: that the others keep their order.
func TestMoveOfWrittenBags(t *testing.T) {
	for _, c := range []struct {
		at, where int
		want      string
	}{
		{0, 0, "abcde"}, {4, 4, "abcde"}, {0, 4, "bcdea"}, {4, 0, "eabcd"}, {1, 3, "acdbe"}, {3, 1, "adbce"}, {1, 2, "acbde"}, {2, 1, "acbde"},
	} {
		n, _ := sent(t, "a", "b", "c", "d", "e")
		if ok, got := n.Move(1, 2, c.at, c.where), strings.Join(texts(n.Bag(1, 2)), ""); !ok || got != c.want {
			t.Errorf("Move of %d to %d: %s, %v", c.at, c.where, got, ok)
		}
	}
}

func TestClear(t *testing.T) {
	for _, to := range addresses {
		n, m := net.New(), model{}
		for i, a := range addresses {
			for j, b := range addresses {
				for k := range (i+2*j)%4 + 1 {
					n.Send(a, b, []byte{byte(k)})
					m.send(net.Link{From: a, To: b}, string([]byte{byte(k)}))
				}
			}
		}
		for range 2 {
			if got, want := n.Clear(to), m.clear(to); got != want {
				t.Errorf("Clear of %d: %d, not %d", to, got, want)
			}
			expect(t, n, m, net.Link{From: 0, To: to}, net.Link{From: to, To: to})
		}
	}
}

// TestClearOfNoOnesAddress: packets from an address aren't to it.
func TestClearOfNoOnesAddress(t *testing.T) {
	n, m := sent(t, numbered(3)...)
	for _, a := range []int{1, 0, 3, -2, math.MinInt, math.MaxInt} {
		if got := n.Clear(a); got != 0 {
			t.Errorf("Clear of %d: %d", a, got)
		}
		expect(t, n, m)
	}
	if got := n.Clear(2); got != 3 {
		t.Errorf("Clear: %d", got)
	}
	expect(t, n, nil, net.Link{From: 1, To: 2})
}

func TestNil(t *testing.T) {
	var n *net.Net
	for _, at := range append(edges, 0, 1) {
		if b, ok := n.Take(1, 2, at); len(b) != 0 || ok {
			t.Errorf("Take: %q, %v", b, ok)
		}
		if n.Send(at, 2, []byte("a")) || n.Send(1, at, nil) || n.Double(1, 2, at) || n.Move(1, 2, at, at) || n.Clear(at) != 0 {
			t.Errorf("at %d", at)
		}
		if len(n.Bag(1, at)) != 0 || len(n.Bag(at, 2)) != 0 || len(n.Links()) != 0 || n.Count() != 0 {
			t.Errorf("there are packets")
		}
	}
}

// P11.3

// roomy answers a list of the text's bytes with spare room behind it, and all of its room.
func roomy(s string) ([]byte, []byte) {
	room := append([]byte(s), bytes.Repeat([]byte{0xEE}, 40)...)
	return room[:len(s)], room
}

// spoil writes over all of a list's room.
func spoil(b []byte) {
	b = b[:cap(b)]
	for i := range b {
		b[i] = 0xDD
	}
}

func TestWhatIsSentIsLeftAndNotKept(t *testing.T) {
	n, m := net.New(), model{}
	for _, s := range []string{"", "a", "abcdefgh", strings.Repeat("x", 100)} {
		b, room := roomy(s)
		before := bytes.Clone(room)
		n.Send(1, 2, b)
		m.send(net.Link{From: 1, To: 2}, s)
		n.Double(1, 2, 0)
		m.double(net.Link{From: 1, To: 2}, 0)
		n.Move(1, 2, 0, 1)
		m.move(net.Link{From: 1, To: 2}, 0, 1)
		if !bytes.Equal(room, before) {
			t.Errorf("%x was %x", room, before)
		}
		spoil(b)
		expect(t, n, m)
	}
	full, _ := sent(t, numbered(most)...)
	b, room := roomy("lost")
	before := bytes.Clone(room)
	if full.Send(1, 2, b); !bytes.Equal(room, before) {
		t.Errorf("%x was %x", room, before)
	}
}

func TestBagIsNewMemory(t *testing.T) {
	n, m := sent(t, numbered(5)...)
	n.Double(1, 2, 3)
	m.double(net.Link{From: 1, To: 2}, 3)
	kept := n.Bag(1, 2)
	bag := n.Bag(1, 2)
	for _, b := range bag {
		spoil(b)
	}
	_ = append(bag, []byte("more"))
	clear(bag[:cap(bag)])
	expect(t, n, m)
	if got := texts(kept); !slices.Equal(got, m.bag(net.Link{From: 1, To: 2})) {
		t.Errorf("two answers share memory: %q", got)
	}
	n.Take(1, 2, 0)
	n.Move(1, 2, 0, 2)
	n.Send(1, 2, []byte("later"))
	n.Clear(2)
	if got := texts(kept); !slices.Equal(got, m.bag(net.Link{From: 1, To: 2})) {
		t.Errorf("an answer changed: %q", got)
	}
}

// TestPacketsOfABagShareNoRoom: what is put behind one of them isn't written over another one.
func TestPacketsOfABagShareNoRoom(t *testing.T) {
	n, m := sent(t, numbered(5)...)
	bag := n.Bag(1, 2)
	for i := range bag {
		_ = append(bag[i], "more"...)
		_ = append(bag[i], "and much more than there was room for"...)
	}
	if got := texts(bag); !slices.Equal(got, numbered(5)) {
		t.Errorf("%q", got)
	}
	expect(t, n, m)
}

func TestLinksIsNewMemory(t *testing.T) {
	n, m := sent(t, "a")
	n.Send(0, 1, []byte("b"))
	m.send(net.Link{From: 0, To: 1}, "b")
	for range 2 {
		links := n.Links()
		_ = append(links, net.Link{From: 7, To: 7})
		clear(links[:cap(links)])
		expect(t, n, m)
	}
}

func TestTakeIsNewMemory(t *testing.T) {
	n, m := sent(t, numbered(4)...)
	l := net.Link{From: 1, To: 2}
	for _, at := range []int{0, 1, 2} {
		n.Double(1, 2, at)
		m.double(l, at)
	}
	for len(m) > 0 {
		b, _ := n.Take(1, 2, 0)
		want, _ := m.take(l, 0)
		n.Send(2, 1, b)
		if got := n.Bag(2, 1); string(b) != want || string(got[len(got)-1]) != want {
			t.Errorf("%q, not %q", b, want)
		}
		spoil(b)
		_ = append(b, "more"...)
		n.Take(2, 1, 0)
		expect(t, n, m)
	}
}

func TestTwoNetsDoNotHangOnOneAnother(t *testing.T) {
	one, m := sent(t, "a", "b")
	two := net.New()
	expect(t, two, nil, net.Link{From: 1, To: 2})
	two.Send(1, 2, []byte("c"))
	two.Send(3, 4, []byte("d"))
	expect(t, one, m)
	two.Clear(2)
	expect(t, one, m)
	one.Clear(2)
	expect(t, two, model{{net.Link{From: 3, To: 4}, "d"}})
}

// walked: the links of walks; two to one address, two from one, one and the other way round, one from an address to itself.
var walked = []net.Link{{From: 0, To: 1}, {From: 1, To: 0}, {From: 0, To: 2}, {From: 100, To: 1}, {From: 2, To: 2}}

// step does one op on a net and on its model, and expects the same answer.
func step(t *testing.T, n *net.Net, m *model, op int, l net.Link, at, where int) {
	t.Helper()
	switch op % 6 {
	case 0, 1:
		s := strings.Repeat(string(rune('a'+at&15)), where&3)
		if got, want := n.Send(l.From, l.To, []byte(s)), m.send(l, s); got != want {
			t.Errorf("Send on %v: %v", l, got)
		}
	case 2:
		want, there := m.take(l, at)
		if b, ok := n.Take(l.From, l.To, at); string(b) != want || ok != there {
			t.Errorf("Take of %d on %v: %q, %v, not %q, %v", at, l, b, ok, want, there)
		}
	case 3:
		if got, want := n.Double(l.From, l.To, at), m.double(l, at); got != want {
			t.Errorf("Double of %d on %v: %v", at, l, got)
		}
	case 4:
		if got, want := n.Move(l.From, l.To, at, where), m.move(l, at, where); got != want {
			t.Errorf("Move of %d to %d on %v: %v", at, where, l, got)
		}
	case 5:
		// Not at each number, else a walk's bags would hardly ever fill.
		if at%8 == 7 {
			if got, want := n.Clear(l.To), m.clear(l.To); got != want {
				t.Errorf("Clear of %d: %d, not %d", l.To, got, want)
			}
		}
	}
}

func TestLongWalks(t *testing.T) {
	x := uint64(1)
	draw := func(below int) int {
		x = x*6364136223846793005 + 1442695040888963407
		return int(x>>33) % below
	}
	full := 0
	for walk := range 20 {
		n, m := net.New(), model{}
		for range 1500 {
			// In some walks more is sent than is taken, on one link above all, so that its bag fills.
			op, l := draw(6), walked[draw(len(walked))]
			if walk%2 == 1 && draw(3) > 0 {
				op, l = draw(2)*3, walked[0]
			}
			step(t, n, &m, op, l, draw(70)-2, draw(70)-2)
			expect(t, n, m, walked...)
			if len(m.of(walked[0])) == most {
				full++
			}
		}
	}
	if full == 0 {
		t.Error("no bag was ever full")
	}
}

// TestAllShortWalks goes through all rows of five of these ops.
func TestAllShortWalks(t *testing.T) {
	ops := []func(*net.Net, *model){
		func(n *net.Net, m *model) { step(t, n, m, 0, walked[0], 0, 1) },
		func(n *net.Net, m *model) { step(t, n, m, 0, walked[0], 1, 2) },
		func(n *net.Net, m *model) { step(t, n, m, 0, walked[3], 2, 0) },
		func(n *net.Net, m *model) { step(t, n, m, 2, walked[0], 0, 0) },
		func(n *net.Net, m *model) { step(t, n, m, 2, walked[0], 1, 0) },
		func(n *net.Net, m *model) { step(t, n, m, 3, walked[0], 0, 0) },
		func(n *net.Net, m *model) { step(t, n, m, 4, walked[0], 0, 2) },
		func(n *net.Net, m *model) { step(t, n, m, 4, walked[0], 1, 0) },
		func(n *net.Net, m *model) { step(t, n, m, 5, walked[0], 7, 0) },
	}
	rows := 1
	for range 5 {
		rows *= len(ops)
	}
	for row := range rows {
		n, m := net.New(), model{}
		for rest := row + rows; rest >= len(ops); rest /= len(ops) {
			ops[rest%len(ops)](n, &m)
		}
		expect(t, n, m, walked...)
	}
}

func FuzzWalks(f *testing.F) {
	f.Add([]byte{0, 0, 1, 0, 0, 2, 3, 0, 0, 4, 1, 0, 2, 0, 0, 5, 7, 0})
	f.Add(bytes.Repeat([]byte{0, 5, 3}, 70))
	f.Add(append(bytes.Repeat([]byte{6, 5, 1}, most-1), 9, 2, 0, 9, 3, 0, 10, most-1, 0, 8, most-1, 0))
	f.Fuzz(func(t *testing.T, walk []byte) {
		n, m := net.New(), model{}
		for len(walk) >= 3 && !t.Failed() {
			// One byte tells the op and the link; of the others, those from 128 on are numbers below 0.
			op, l := int(walk[0]%6), walked[int(walk[0]/6)%len(walked)]
			step(t, n, &m, op, l, int(int8(walk[1])), int(int8(walk[2])))
			expect(t, n, m, walked...)
			walk = walk[3:]
		}
	})
}
