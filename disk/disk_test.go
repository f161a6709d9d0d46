package disk_test

import (
	"bytes"
	"fmt"
	"math"
	"strings"
	"testing"

	"parish/api"
	"parish/disk"
)

// cuts: how much is kept of disks that have up to a few bytes; more than there are, and less than none, too.
var cuts = []int{math.MinInt, -1 << 32, -2, -1, 0, 1, 2, 3, 4, 5, 6, 7, 8, 9, 10, 11, 12, 100, 1 << 32, math.MaxInt - 1, math.MaxInt}

// model tells what a disk must have: what lasts and the rest of it as two texts.
type model struct {
	size int
	old  string // what lasts
	rest string
	fuse int // -1: none
	down bool
	torn bool // whether the power went within a Replace, by fresh
	by   string
}

func empty(size int) *model {
	return &model{size: max(size, 0), fuse: -1}
}

// burn counts an act, and answers whether the power goes within it.
func (m *model) burn() bool {
	m.down = m.fuse == 0
	if m.fuse > 0 {
		m.fuse--
	}
	return m.down
}

func (m *model) append(s string) api.Errno {
	switch {
	case m.down:
		return api.ErrLost
	case len(m.old+m.rest+s) > m.size:
		return api.ErrFull
	}
	m.rest += s
	if m.burn() {
		return api.ErrLost
	}
	return api.OK
}

func (m *model) sync() api.Errno {
	if m.down || m.burn() {
		return api.ErrLost
	}
	m.old, m.rest = m.old+m.rest, ""
	return api.OK
}

func (m *model) replace(s string) api.Errno {
	switch {
	case m.down:
		return api.ErrLost
	case len(s) > m.size:
		return api.ErrFull
	case m.burn():
		m.torn, m.by = true, s
		return api.ErrLost
	}
	m.old, m.rest = s, ""
	return api.OK
}

func (m *model) cut(kept int) *model {
	m.down = true
	c := empty(m.size)
	switch {
	case m.torn && kept > 0:
		c.old = m.by
	case m.torn || kept <= 0:
		c.old = m.old
	case kept < len(m.rest):
		c.old = m.old + m.rest[:kept]
	default:
		c.old = m.old + m.rest
	}
	return c
}

// expect asks a disk all that can be asked of it without an act, and expects what the model tells.
func expect(t *testing.T, d *disk.Disk, m *model) {
	t.Helper()
	if got := string(d.Bytes()); got != m.old+m.rest {
		t.Errorf("Bytes: %q, not %q", got, m.old+m.rest)
	}
	if got := d.Lasting(); got != len(m.old) {
		t.Errorf("Lasting: %d, not %d", got, len(m.old))
	}
	if got := d.Down(); got != m.down {
		t.Errorf("Down: %v", got)
	}
}

// expectCut cuts both, expects of what comes of it and of the disk itself what the model tells, and answers what comes of it.
func expectCut(t *testing.T, d *disk.Disk, m *model, kept int) (*disk.Disk, *model) {
	t.Helper()
	c, n := d.Cut(kept), m.cut(kept)
	expect(t, c, n)
	expect(t, d, m)
	if c == d {
		t.Error("Cut is the disk itself")
	}
	return c, n
}

// expectCuts cuts in all ways, one behind the other, so that the disk is down then.
func expectCuts(t *testing.T, d *disk.Disk, m *model) {
	t.Helper()
	for _, kept := range cuts {
		expectCut(t, d, m, kept)
	}
}

// answers holds an error against the one that is asked for.
func answers(t *testing.T, what string, got, want api.Errno) {
	t.Helper()
	if got != want {
		t.Errorf("%s: %d, not %d", what, got, want)
	}
}

// op does one act on a disk and on its model, told by a text: ! is a Sync, =x a Replace by x, x an Append of x.
func op(t *testing.T, d *disk.Disk, m *model, s string) {
	t.Helper()
	switch {
	case s == "!":
		answers(t, "Sync", d.Sync(), m.sync())
	case strings.HasPrefix(s, "="):
		answers(t, "Replace "+s[1:], d.Replace([]byte(s[1:])), m.replace(s[1:]))
	default:
		answers(t, "Append "+s, d.Append([]byte(s)), m.append(s))
	}
	expect(t, d, m)
}

// made answers a disk of size 10 on which those were done.
func made(t *testing.T, ops ...string) (*disk.Disk, *model) {
	t.Helper()
	d, m := disk.New(10), empty(10)
	for _, s := range ops {
		op(t, d, m, s)
	}
	return d, m
}

// some: acts on a disk of size 10, as rows; the disks that come of them have bytes that last, others, both, none.
var some = [][]string{
	{}, {""}, {"!"}, {"="}, {"ab"}, {"ab", "!"}, {"ab", "!", "cd"}, {"ab", "!", "cd", "e"}, {"=xyz"}, {"=xyz", "ab"}, {"ab", "=xyz"},
	{"ab", "!", "cd", "=x"}, {"ab", "!", "="}, {"ab", "!", "cd", "="}, {"ab", "="}, {"0123456789"}, {"0123456789", "!"}, {"=0123456789"}, {"01234", "!", "56789"},
}

// P12.1

func TestNewIsEmpty(t *testing.T) {
	for _, size := range []int{0, 1, 6, 60000, math.MaxInt, -1, -6, math.MinInt} {
		d := disk.New(size)
		expect(t, d, empty(size))
		expectCuts(t, d, empty(size))
	}
}

// TestNewHasNoFuse: acts beyond number are done.
func TestNewHasNoFuse(t *testing.T) {
	d, m := disk.New(4), empty(4)
	for range 300 {
		for _, s := range []string{"a", "!", "bc", "=d", "=", ""} {
			op(t, d, m, s)
		}
	}
}

func TestSizeBelowZeroIsZero(t *testing.T) {
	for _, size := range []int{0, -1, -2, -1 << 40, math.MinInt} {
		d, m := disk.New(size), empty(0)
		for _, s := range []string{"a", "=a", "", "=", "!", "abc", "=abc"} {
			op(t, d, m, s)
		}
		answers(t, "Append of a byte", d.Append([]byte{0}), api.ErrFull)
		answers(t, "Append of none", d.Append(nil), api.OK)
		answers(t, "Replace by a byte", d.Replace([]byte{0}), api.ErrFull)
		answers(t, "Replace by none", d.Replace(nil), api.OK)
		expectCuts(t, d, m)
	}
}

// A disk that New didn't make is one of size 0.
func TestZeroDiskIsOneOfSizeZero(t *testing.T) {
	for _, d := range []*disk.Disk{{}, new(disk.Disk)} {
		m := empty(0)
		expect(t, d, m)
		for _, s := range []string{"", "!", "=", "a", "=a", "", "!"} {
			op(t, d, m, s)
		}
		expectCuts(t, d, m)
	}
}

func TestExample(t *testing.T) {
	d := disk.New(10)
	answers(t, "Append", d.Append([]byte("ab")), api.OK)
	answers(t, "Sync", d.Sync(), api.OK)
	answers(t, "Append", d.Append([]byte("cd")), api.OK)
	if got := string(d.Cut(1).Bytes()); got != "abc" {
		t.Errorf("%q", got)
	}
}

func TestAppendPutsBehind(t *testing.T) {
	d := disk.New(6)
	for _, c := range []struct {
		text, want string
	}{{"ab", "ab"}, {"", "ab"}, {"c", "abc"}, {"def", "abcdef"}, {"", "abcdef"}} {
		answers(t, "Append", d.Append([]byte(c.text)), api.OK)
		if got := string(d.Bytes()); got != c.want || d.Lasting() != 0 || d.Down() {
			t.Errorf("%q, %d lasting", got, d.Lasting())
		}
	}
}

// TestAppendBeyondTheSize: the last byte that fits, and the first one that doesn't, at all sizes and from all that may be there.
func TestAppendBeyondTheSize(t *testing.T) {
	for size := range 9 {
		for there := range size + 1 {
			for more := range 12 {
				for _, sync := range []bool{false, true} {
					d, m := disk.New(size), empty(size)
					op(t, d, m, strings.Repeat("a", there))
					if sync {
						op(t, d, m, "!")
					}
					want := api.OK
					if there+more > size {
						want = api.ErrFull
					}
					answers(t, fmt.Sprintf("Append of %d behind %d of %d", more, there, size), d.Append(bytes.Repeat([]byte("b"), more)), want)
					m.append(strings.Repeat("b", more))
					expect(t, d, m)
				}
			}
		}
	}
}

// TestWhatIsRefusedChangesNothing: neither what is there nor the fuse, and what fits then is done.
func TestWhatIsRefusedChangesNothing(t *testing.T) {
	for _, row := range some {
		d, m := made(t, row...)
		d.SetFuse(1)
		m.fuse = 1
		for range 3 {
			answers(t, "Append", d.Append(make([]byte, 11)), api.ErrFull)
			answers(t, "Replace", d.Replace(make([]byte, 11)), api.ErrFull)
			expect(t, d, m)
		}
		op(t, d, m, "=z")
		if m.down {
			t.Error("the fuse was burnt")
		}
		answers(t, "Append", d.Append(make([]byte, 10)), api.ErrFull)
		answers(t, "Replace", d.Replace(make([]byte, 11)), api.ErrFull)
		expect(t, d, m)
		op(t, d, m, "!")
		if !m.down {
			t.Error("the fuse held")
		}
		expectCuts(t, d, m)
	}
}

func TestSyncLetsAllLast(t *testing.T) {
	for _, row := range some {
		d, m := made(t, row...)
		for range 2 {
			answers(t, "Sync", d.Sync(), api.OK)
			m.sync()
			expect(t, d, m)
			if d.Lasting() != len(d.Bytes()) {
				t.Errorf("%q: %d last", d.Bytes(), d.Lasting())
			}
		}
		op(t, d, m, "")
		expectCuts(t, d, m)
	}
}

func TestReplaceIsThereAloneAndLasts(t *testing.T) {
	for _, row := range some {
		for _, s := range []string{"", "a", "ab", "new", "0123456789"} {
			d, m := made(t, row...)
			answers(t, "Replace", d.Replace([]byte(s)), api.OK)
			m.replace(s)
			expect(t, d, m)
			if string(d.Bytes()) != s || d.Lasting() != len(s) {
				t.Errorf("%q, %d lasting", d.Bytes(), d.Lasting())
			}
			op(t, d, m, "z")
			expectCuts(t, d, m)
		}
	}
}

func TestReplaceBeyondTheSize(t *testing.T) {
	for size := range 9 {
		for there := range size + 1 {
			for by := range 12 {
				d, m := disk.New(size), empty(size)
				op(t, d, m, strings.Repeat("a", there))
				want := api.OK
				if by > size {
					want = api.ErrFull
				}
				answers(t, fmt.Sprintf("Replace by %d of %d", by, size), d.Replace(bytes.Repeat([]byte("b"), by)), want)
				m.replace(strings.Repeat("b", by))
				expect(t, d, m)
			}
		}
	}
}

// TestRoomBehindAReplace: what counts is what is there now, not what was written in all.
func TestRoomBehindAReplace(t *testing.T) {
	d, m := made(t, "0123456789", "!")
	for range 5 {
		for _, s := range []string{"a", "=abc", "0123456", "x", "=", "0123456789", "x", "!", "x", "=0123456789"} {
			op(t, d, m, s)
		}
	}
}

func TestBytesAreAnyBytes(t *testing.T) {
	var all []byte
	for i := range 256 {
		all = append(all, byte(i))
	}
	d, m := disk.New(1<<20), empty(1<<20)
	for _, s := range []string{"\x00", "\xFF\xFE", string(all), "", strings.Repeat("long", 50000), "\xE2\x82"} {
		op(t, d, m, s)
	}
	op(t, d, m, "!")
	op(t, d, m, string(all))
	c, n := expectCut(t, d, m, 200)
	op(t, c, n, "="+string(all)+string(all))
	op(t, c, n, "\x00\x00")
	expectCuts(t, c, n)
}

func TestSizesBeyondAllBytes(t *testing.T) {
	for _, size := range []int{math.MaxInt, math.MaxInt - 1, 1 << 40} {
		d, m := disk.New(size), empty(size)
		for _, s := range []string{"abc", "!", "de", "=xyz", "", "w"} {
			op(t, d, m, s)
		}
		c, n := expectCut(t, d, m, math.MaxInt)
		op(t, c, n, "more")
		if got := string(c.Bytes()); got != "xyzwmore" {
			t.Errorf("%q", got)
		}
	}
}

// TestErrorsInTheirOrder: a disk that is down is lost, whether there is room or not; one that is up and has no room is full, whatever its fuse.
func TestErrorsInTheirOrder(t *testing.T) {
	for _, row := range some {
		d, m := made(t, row...)
		d.SetFuse(0)
		m.fuse = 0
		answers(t, "Append", d.Append(make([]byte, 11)), api.ErrFull)
		answers(t, "Replace", d.Replace(make([]byte, 11)), api.ErrFull)
		expect(t, d, m)
		answers(t, "Sync", d.Sync(), api.ErrLost)
		m.sync()
		for range 2 {
			answers(t, "Append", d.Append(make([]byte, 11)), api.ErrLost)
			answers(t, "Replace", d.Replace(make([]byte, 11)), api.ErrLost)
			answers(t, "Append", d.Append(nil), api.ErrLost)
			answers(t, "Replace", d.Replace(nil), api.ErrLost)
			answers(t, "Sync", d.Sync(), api.ErrLost)
			expect(t, d, m)
		}
		expectCuts(t, d, m)
	}
}

// P12.2

// acts: each kind of act, with bytes and without.
var acts = []string{"c", "", "cde", "!", "=x", "=", "=wxyz"}

// TestWithinEachAct: what is there when the power goes within it, and behind all cuts.
func TestWithinEachAct(t *testing.T) {
	for _, row := range some {
		for _, act := range acts {
			d, m := made(t, row...)
			if act != "!" && !strings.HasPrefix(act, "=") && len(m.old+m.rest+act) > 10 {
				continue
			}
			d.SetFuse(0)
			m.fuse = 0
			expect(t, d, m)
			op(t, d, m, act)
			if !d.Down() {
				t.Errorf("%v: %q is done", row, act)
			}
			expectCuts(t, d, m)
		}
	}
}

func TestWrittenCuts(t *testing.T) {
	for _, c := range []struct {
		ops  []string
		last string // the act within which the power goes; "up": none
		kept int
		want string
	}{
		{[]string{"ab", "!", "cd"}, "up", 0, "ab"},
		{[]string{"ab", "!", "cd"}, "up", -1, "ab"},
		{[]string{"ab", "!", "cd"}, "up", 2, "abcd"},
		{[]string{"ab", "!", "cd"}, "up", 3, "abcd"},
		{[]string{"ab", "!", "cd"}, "efg", 0, "ab"},
		{[]string{"ab", "!", "cd"}, "efg", 1, "abc"},
		{[]string{"ab", "!", "cd"}, "efg", 4, "abcdef"},
		{[]string{"ab", "!", "cd"}, "efg", 5, "abcdefg"},
		{[]string{"ab", "!", "cd"}, "!", 0, "ab"},
		{[]string{"ab", "!", "cd"}, "!", 1, "abc"},
		{[]string{"ab", "!", "cd"}, "!", 2, "abcd"},
		{[]string{"ab", "!", "cd"}, "=xyz", 0, "ab"},
		{[]string{"ab", "!", "cd"}, "=xyz", -1, "ab"},
		{[]string{"ab", "!", "cd"}, "=xyz", 1, "xyz"},
		{[]string{"ab", "!", "cd"}, "=xyz", 2, "xyz"},
		{[]string{"ab", "!"}, "=xyz", 0, "ab"},
		{[]string{"ab", "!"}, "=xyz", 1, "xyz"},
		{[]string{"ab", "!"}, "=", 1, ""},
		{[]string{"ab", "!"}, "=", 0, "ab"},
		{[]string{}, "=xyz", 0, ""},
		{[]string{}, "=xyz", 1, "xyz"},
		{[]string{"cd"}, "=xyz", 0, ""},
		{[]string{"=xyz", "ab"}, "c", 2, "xyzab"},
	} {
		d, m := made(t, c.ops...)
		if c.last != "up" {
			d.SetFuse(0)
			m.fuse = 0
			op(t, d, m, c.last)
		}
		x := d.Cut(c.kept)
		if got := string(x.Bytes()); got != c.want || x.Lasting() != len(c.want) || x.Down() || !d.Down() {
			t.Errorf("%v, %q, kept %d: %q, %d lasting", c.ops, c.last, c.kept, got, x.Lasting())
		}
	}
}

// TestFuseLetsSoManyActsBeDone counts them, of all kinds.
func TestFuseLetsSoManyActsBeDone(t *testing.T) {
	for fuse := range 8 {
		for first := range acts {
			d, m := disk.New(1000), empty(1000)
			d.SetFuse(fuse)
			m.fuse = fuse
			done := 0
			for i := 0; !d.Down() && i < 20; i++ {
				op(t, d, m, acts[(first+i*3)%len(acts)])
				done++
			}
			if done != fuse+1 {
				t.Errorf("a fuse of %d: the power went within act %d", fuse, done)
			}
			op(t, d, m, "more")
			expectCuts(t, d, m)
		}
	}
}

func TestFuseBelowZeroIsNone(t *testing.T) {
	for _, none := range []int{-1, -2, -1 << 32, math.MinInt} {
		for fuse := range 3 {
			d, m := made(t, "a")
			d.SetFuse(fuse)
			d.SetFuse(none)
			for range 10 {
				for _, s := range acts {
					op(t, d, m, s)
				}
			}
		}
	}
}

// TestTheLastFuseHolds: acts that were done ahead of it don't count.
func TestTheLastFuseHolds(t *testing.T) {
	for _, c := range []struct{ first, acts, then int }{{0, 0, 3}, {5, 3, 2}, {2, 2, 2}, {9, 1, 0}, {-1, 4, 1}, {math.MaxInt, 7, 4}} {
		d, m := disk.New(1000), empty(1000)
		d.SetFuse(c.first)
		m.fuse = c.first
		for range c.acts {
			op(t, d, m, "a")
		}
		d.SetFuse(c.then)
		m.fuse = c.then
		for range c.then {
			op(t, d, m, "b")
			if d.Down() {
				t.Errorf("%v: the power went early", c)
			}
		}
		op(t, d, m, "c")
		if !d.Down() {
			t.Errorf("%v: the power is there", c)
		}
	}
}

func TestLongFuses(t *testing.T) {
	for _, fuse := range []int{math.MaxInt, math.MaxInt - 1, 1 << 32, 1 << 31} {
		d, m := made(t)
		d.SetFuse(fuse)
		for range 20 {
			for _, s := range acts {
				op(t, d, m, s)
			}
		}
	}
}

// TestDiskThatIsDownStaysSo: by an act, and by a cut; no fuse and no act changes it.
func TestDiskThatIsDownStaysSo(t *testing.T) {
	for _, row := range some {
		for _, last := range []string{"", "!", "=xyz", "="} {
			for _, byCut := range []bool{false, true} {
				d, m := made(t, row...)
				if byCut {
					expectCut(t, d, m, 1)
				} else {
					d.SetFuse(0)
					m.fuse = 0
					op(t, d, m, last)
				}
				for _, fuse := range []int{5, 0, -1, math.MaxInt, math.MinInt, 1} {
					d.SetFuse(fuse)
					expect(t, d, m)
					for _, s := range acts {
						answers(t, "act", act(d, s), api.ErrLost)
						expect(t, d, m)
					}
					expectCut(t, d, m, 1)
				}
				expectCuts(t, d, m)
			}
		}
	}
}

// act does the act that a text tells.
func act(d *disk.Disk, s string) api.Errno {
	switch {
	case s == "!":
		return d.Sync()
	case strings.HasPrefix(s, "="):
		return d.Replace([]byte(s[1:]))
	}
	return d.Append([]byte(s))
}

// TestCutOfADiskThatIsUp: no act was under way, so that its bytes are as they were.
func TestCutOfADiskThatIsUp(t *testing.T) {
	for _, row := range some {
		for _, kept := range cuts {
			d, m := made(t, row...)
			d.SetFuse(0)
			if d.Down() {
				t.Error("a fuse takes the power by itself")
			}
			expectCut(t, d, m, kept)
			answers(t, "Append", d.Append(nil), api.ErrLost)
			answers(t, "Sync", d.Sync(), api.ErrLost)
			answers(t, "Replace", d.Replace([]byte("xyz")), api.ErrLost)
			// Those were refused, and none of them is what the power went within.
			expectCuts(t, d, m)
		}
	}
}

// TestWhatACutAnswers: the size, no fuse, and all lasts.
func TestWhatACutAnswers(t *testing.T) {
	for _, row := range some {
		for _, last := range append(acts, "up") {
			for _, kept := range cuts {
				d, m := made(t, row...)
				d.SetFuse(0)
				m.fuse = 0
				if last != "up" {
					op(t, d, m, last)
				}
				c, n := expectCut(t, d, m, kept)
				there := string(c.Bytes())
				answers(t, "Append beyond the size", c.Append(make([]byte, 11-len(there))), api.ErrFull)
				answers(t, "Replace beyond the size", c.Replace(make([]byte, 11)), api.ErrFull)
				op(t, c, n, strings.Repeat("z", 10-len(there)))
				for range 3 {
					op(t, c, n, "")
				}
				x, _ := expectCut(t, c, n, 0)
				if string(x.Bytes()) != there {
					t.Errorf("behind a second cut %q, not %q", x.Bytes(), there)
				}
			}
		}
	}
}

// TestCutsOfCuts: each is a disk of its own, with a fuse of its own.
func TestCutsOfCuts(t *testing.T) {
	d, m := made(t, "ab")
	for i := range 40 {
		d.SetFuse(i % 3)
		m.fuse = i % 3
		for _, s := range []string{"cd", acts[i%len(acts)], "e", acts[(i*5+2)%len(acts)]} {
			op(t, d, m, s)
		}
		d, m = expectCut(t, d, m, i%4-1)
	}
}

func TestNil(t *testing.T) {
	var d *disk.Disk
	for _, n := range cuts {
		d.SetFuse(n)
		if d.Cut(n) != nil {
			t.Error("Cut")
		}
		answers(t, "Append", d.Append(nil), api.ErrLost)
		answers(t, "Append", d.Append([]byte("a")), api.ErrLost)
		answers(t, "Sync", d.Sync(), api.ErrLost)
		answers(t, "Replace", d.Replace(nil), api.ErrLost)
		answers(t, "Replace", d.Replace([]byte("a")), api.ErrLost)
		if len(d.Bytes()) != 0 || d.Lasting() != 0 || !d.Down() {
			t.Errorf("%q, %d lasting, %v", d.Bytes(), d.Lasting(), d.Down())
		}
	}
}

// P12.3

// roomy answers a list of the text's bytes with spare room behind it, and all of its room.
func roomy(s string) ([]byte, []byte) {
	room := append([]byte(s), bytes.Repeat([]byte{0xEE}, 40)...)
	return room[:len(s)], room
}

// spoil writes over all of a list's room.
func spoil(b []byte) {
	b = b[:cap(b)]
	for i := range b {
		b[i] = 0xDD
	}
}

// TestWhatIsWrittenIsLeftAndNotKept, within a fuse's act too.
func TestWhatIsWrittenIsLeftAndNotKept(t *testing.T) {
	for _, fuse := range []int{-1, 0, 1, 2, 3} {
		d, m := made(t)
		d.SetFuse(fuse)
		m.fuse = fuse
		for _, s := range []string{"ab", "=xyz", "", "cde", "=", "fgh"} {
			b, room := roomy(strings.TrimPrefix(s, "="))
			before := bytes.Clone(room)
			if strings.HasPrefix(s, "=") {
				answers(t, "Replace", d.Replace(b), m.replace(s[1:]))
			} else {
				answers(t, "Append", d.Append(b), m.append(s))
			}
			if !bytes.Equal(room, before) {
				t.Errorf("%x was %x", room, before)
			}
			spoil(b)
			expect(t, d, m)
		}
		expectCuts(t, d, m)
	}
}

func TestBytesIsNewMemory(t *testing.T) {
	for _, row := range some {
		d, m := made(t, row...)
		kept, want := d.Bytes(), m.old+m.rest
		for range 2 {
			b := d.Bytes()
			_ = append(b, "more"...)
			spoil(b)
			expect(t, d, m)
		}
		op(t, d, m, "=0123456789")
		op(t, d, m, "=z")
		op(t, d, m, "ab")
		if string(kept) != want {
			t.Errorf("an answer changed: %q", kept)
		}
		b := d.Bytes()
		op(t, d, m, "cd")
		spoil(b)
		expectCuts(t, d, m)
	}
}

// TestDisksDoNotHangOnOneAnother: those that a disk was cut to, and others.
func TestDisksDoNotHangOnOneAnother(t *testing.T) {
	for _, last := range append(acts, "up") {
		d, m := made(t, "ab", "!", "c", "d")
		other, o := made(t, "ef")
		d.SetFuse(0)
		m.fuse = 0
		if last != "up" {
			op(t, d, m, last)
		}
		var disks []*disk.Disk
		var models []*model
		for _, kept := range []int{0, 1, 1, 2, 9} {
			c, n := expectCut(t, d, m, kept)
			disks, models = append(disks, c), append(models, n)
		}
		for i, c := range disks {
			op(t, c, models[i], string(rune('p'+i)))
			if i%2 == 0 {
				op(t, c, models[i], "!")
			}
			spoil(c.Bytes())
			c.SetFuse(0)
			models[i].fuse = 0
			for j := range disks {
				expect(t, disks[j], models[j])
			}
			expect(t, d, m)
			expect(t, other, o)
		}
		op(t, other, o, "gh")
		expectCuts(t, d, m)
		for i, c := range disks {
			expectCuts(t, c, models[i])
		}
	}
}

// walker is a disk with its model, and what P12.3 speaks of.
type walker struct {
	d       *disk.Disk
	m       *model
	safe    string // what was synced, or replaced, last
	written string // all that was written since the last Replace, and that
	instead string // what the disk was replaced by, if the power went within that
}

// expectWhatFollows: behind any cut what was synced is there, and what is there is a beginning of what was written.
func (w *walker) expectWhatFollows(t *testing.T, c *disk.Disk) {
	t.Helper()
	got := string(c.Bytes())
	if w.m.torn && got == w.instead {
		return
	}
	if !strings.HasPrefix(got, w.safe) || !strings.HasPrefix(w.written, got) {
		t.Errorf("%q: %q was synced, and %q written", got, w.safe, w.written)
	}
}

// step does what a number tells, with a text; behind a cut the walk goes on with what came of it.
func (w *walker) step(t *testing.T, what int, s string, n int) {
	t.Helper()
	switch what % 8 {
	default:
		op(t, w.d, w.m, s)
		// Else it was refused.
		if len(w.m.old+w.m.rest) == len(w.written+s) {
			w.written += s
		}
	case 3, 4:
		op(t, w.d, w.m, "!")
		if !w.m.down {
			w.safe = w.written
		}
	case 5:
		up := !w.m.down
		op(t, w.d, w.m, "="+s)
		if w.m.down && up {
			w.instead = s
		} else if !w.m.down && len(s) <= w.m.size {
			w.safe, w.written = s, s
		}
	case 6:
		w.d.SetFuse(n)
		w.m.fuse = max(n, -1)
		expect(t, w.d, w.m)
	case 7:
		c, m := expectCut(t, w.d, w.m, n)
		w.expectWhatFollows(t, c)
		for _, kept := range cuts[2:10] {
			x, _ := expectCut(t, w.d, w.m, kept)
			w.expectWhatFollows(t, x)
		}
		there := string(c.Bytes())
		*w = walker{d: c, m: m, safe: there, written: there}
	}
}

func TestLongWalks(t *testing.T) {
	x := uint64(1)
	draw := func(below int) int {
		x = x*6364136223846793005 + 1442695040888963407
		return int(x>>33) % below
	}
	torn, full, lost := 0, 0, 0
	for range 200 {
		size := draw(30)
		w := walker{d: disk.New(size), m: empty(size)}
		for i := range 400 {
			text := strings.Repeat(string(rune('a'+i%26)), draw(6))
			before := len(w.m.old + w.m.rest)
			// Half of the cuts are left out, so that more comes between them.
			if what := draw(8); what < 7 || draw(2) == 0 {
				w.step(t, what, text, draw(8)-2)
			}
			if before+len(text) > size {
				full++
			}
			if w.m.torn {
				torn++
			} else if w.m.down {
				lost++
			}
		}
	}
	if torn == 0 || full == 0 || lost == 0 {
		t.Errorf("the walks met %d, %d, %d", torn, full, lost)
	}
}

// TestAllShortWalks goes through all rows of five of these acts, cuts and fuses, on a disk that is full soon.
func TestAllShortWalks(t *testing.T) {
	steps := []struct {
		what int
		text string
		n    int
	}{{0, "ab", 0}, {0, "", 0}, {3, "", 0}, {5, "xyz", 0}, {5, "", 0}, {6, "", 0}, {6, "", 1}, {7, "", 1}}
	rows := 1
	for range 5 {
		rows *= len(steps)
	}
	for row := range rows {
		w := walker{d: disk.New(5), m: empty(5)}
		for rest := row + rows; rest >= len(steps); rest /= len(steps) {
			s := steps[rest%len(steps)]
			w.step(t, s.what, s.text, s.n)
		}
		w.step(t, 7, "", row%4-1)
		if t.Failed() {
			t.Fatalf("row %d", row)
		}
	}
}

func FuzzWalks(f *testing.F) {
	f.Add(byte(10), []byte{0, 2, 0, 3, 0, 0, 0, 2, 0, 7, 0, 1})
	f.Add(byte(6), []byte{0, 4, 0, 6, 0, 0, 5, 3, 0, 7, 0, 1, 0, 3, 0})
	f.Add(byte(0), []byte{0, 1, 0, 0, 0, 0, 5, 0, 0, 6, 0, 255, 7, 0, 255})
	f.Fuzz(func(t *testing.T, size byte, walk []byte) {
		w := walker{d: disk.New(int(int8(size))), m: empty(int(int8(size)))}
		for i := 0; len(walk) >= 3 && !t.Failed(); i++ {
			// The last byte tells a number; those from 128 on are below 0.
			w.step(t, int(walk[0]), strings.Repeat(string(rune('a'+i%26)), int(walk[1]%20)), int(int8(walk[2])))
			walk = walk[3:]
		}
	})
}
