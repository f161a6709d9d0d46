package value_test

import (
	"bytes"
	"fmt"
	"math"
	"strings"
	"testing"
	"unicode/utf8"

	"parish/api"
	"parish/code"
	"parish/value"
)

const (
	canonNaN  uint64 = 0x7FF8000000000000
	minusInf  uint64 = 0xFFF0000000000000
	minusZero uint64 = 0x8000000000000000
	inf       uint64 = 0x7FF0000000000000
	one       uint64 = 0x3FF0000000000000
)

var nothing = api.Value{}

func number(bits uint64) api.Value {
	return api.Value{Kind: api.Num, Bits: bits}
}

func text(s string) api.Value {
	return api.Value{Kind: api.Text, Text: s}
}

// form is a formed value, with its bytes and its text as the chapter writes them.
type form struct {
	v           api.Value
	bytes, text string
}

// rising: formed values, strictly rising.
func rising() []form {
	forty := strings.Repeat("z", 40)
	euros := strings.Repeat("\u20AC", 13) + "x"
	return []form{
		{nothing, "\x00", "none"},
		{number(canonNaN), "\x01\x7F\xF8\x00\x00\x00\x00\x00\x00", "#7ff8000000000000"},
		{number(minusInf), "\x01\xFF\xF0\x00\x00\x00\x00\x00\x00", "#fff0000000000000"},
		{number(0xFFEFFFFFFFFFFFFF), "\x01\xFF\xEF\xFF\xFF\xFF\xFF\xFF\xFF", "#ffefffffffffffff"},
		{number(0xC000000000000000), "\x01\xC0\x00\x00\x00\x00\x00\x00\x00", "#c000000000000000"},
		{number(0xBFF0000000000000), "\x01\xBF\xF0\x00\x00\x00\x00\x00\x00", "#bff0000000000000"},
		{number(0x8000000000000001), "\x01\x80\x00\x00\x00\x00\x00\x00\x01", "#8000000000000001"},
		{number(minusZero), "\x01\x80\x00\x00\x00\x00\x00\x00\x00", "#8000000000000000"},
		{number(0), "\x01\x00\x00\x00\x00\x00\x00\x00\x00", "#0000000000000000"},
		{number(1), "\x01\x00\x00\x00\x00\x00\x00\x00\x01", "#0000000000000001"},
		{number(0x0123456789ABCDEF), "\x01\x01\x23\x45\x67\x89\xAB\xCD\xEF", "#0123456789abcdef"},
		{number(one), "\x01\x3F\xF0\x00\x00\x00\x00\x00\x00", "#3ff0000000000000"},
		{number(0x4000000000000000), "\x01\x40\x00\x00\x00\x00\x00\x00\x00", "#4000000000000000"},
		{number(0x7FEFFFFFFFFFFFFF), "\x01\x7F\xEF\xFF\xFF\xFF\xFF\xFF\xFF", "#7fefffffffffffff"},
		{number(inf), "\x01\x7F\xF0\x00\x00\x00\x00\x00\x00", "#7ff0000000000000"},
		{text(""), "\x02\x00\x00", "$"},
		{text("\x00"), "\x02\x00\x01\x00", "$\x00"},
		{text("\n"), "\x02\x00\x01\n", "$\n"},
		{text("#1"), "\x02\x00\x02#1", "$#1"},
		{text("$"), "\x02\x00\x01$", "$$"},
		{text("A"), "\x02\x00\x01A", "$A"},
		{text("a"), "\x02\x00\x01a", "$a"},
		{text("a "), "\x02\x00\x02a ", "$a "},
		{text("ab"), "\x02\x00\x02ab", "$ab"},
		{text("b"), "\x02\x00\x01b", "$b"},
		{text("none"), "\x02\x00\x04none", "$none"},
		{text(forty[:39]), "\x02\x00\x27" + forty[:39], "$" + forty[:39]},
		{text(forty), "\x02\x00\x28" + forty, "$" + forty},
		{text("\u00E9"), "\x02\x00\x02\xC3\xA9", "$\xC3\xA9"},
		{text("\u20AC"), "\x02\x00\x03\xE2\x82\xAC", "$\xE2\x82\xAC"},
		{text(euros), "\x02\x00\x28" + euros, "$" + euros},
		// By UTF-16 the last would lie ahead of the one before it.
		{text("\uFFFD"), "\x02\x00\x03\xEF\xBF\xBD", "$\xEF\xBF\xBD"},
		{text("\U0001F600"), "\x02\x00\x04\xF0\x9F\x98\x80", "$\xF0\x9F\x98\x80"},
	}
}

// unformed: values that aren't formed, each for one reason alone where it can be.
func unformed() []api.Value {
	return []api.Value{
		{Bits: 1},
		{Bits: canonNaN},
		{Bits: one},
		{Text: "a"},
		{Bits: 1, Text: "a"},
		{Kind: api.Num, Text: "a"},
		{Kind: api.Num, Bits: one, Text: "a"},
		{Kind: api.Num, Bits: one, Text: "\x00"},
		{Kind: api.Num, Bits: 0x7FF0000000000001},
		{Kind: api.Num, Bits: 0x7FF7FFFFFFFFFFFF},
		{Kind: api.Num, Bits: 0x7FF8000000000001},
		{Kind: api.Num, Bits: 0x7FFFFFFFFFFFFFFF},
		{Kind: api.Num, Bits: 0xFFF0000000000001},
		{Kind: api.Num, Bits: 0xFFF8000000000000},
		{Kind: api.Num, Bits: math.MaxUint64},
		{Kind: api.Text, Bits: 1},
		{Kind: api.Text, Bits: 1, Text: "a"},
		{Kind: api.Text, Bits: minusZero, Text: "a"},
		{Kind: api.Text, Text: strings.Repeat("z", 41)},
		{Kind: api.Text, Text: strings.Repeat("\u20AC", 14)}, // 14 runes, but 42 bytes
		{Kind: api.Text, Text: strings.Repeat("z", 39) + "\u00E9"},
		{Kind: api.Text, Text: strings.Repeat("z", 65536)},
		{Kind: api.Text, Text: strings.Repeat("z", 65536+2)},
		{Kind: api.Text, Text: "\xFF"},
		{Kind: api.Text, Text: "a\x80"},
		{Kind: api.Text, Text: "\xC3"},
		{Kind: api.Text, Text: "\xE2\x82"},
		{Kind: api.Text, Text: "\xC0\x80"},     // 0, not in its shortest bytes
		{Kind: api.Text, Text: "\xED\xA0\x80"}, // half a pair
		{Kind: api.Text, Text: "\xF4\x90\x80\x80"},
		{Kind: -1},
		{Kind: 3},
		{Kind: 3, Bits: one},
		{Kind: 3, Text: "a"},
		// Their last byte is a kind's.
		{Kind: 256},
		{Kind: 257, Bits: one},
		{Kind: 258, Text: "a"},
		{Kind: -256},
		{Kind: -255, Bits: one},
		{Kind: math.MinInt},
		{Kind: math.MaxInt},
	}
}

// spoiled: bytes that begin with none's of a formed value, though some are whole.
func spoiled() []string {
	return []string{
		"", "\x03", "\x80", "\xFF", "\x03\x00\x00", "\x03\x3F\xF0\x00\x00\x00\x00\x00\x00",
		"none", "$ab", "#3ff0000000000000",
		"\x01", "\x01\x3F", "\x01\x3F\xF0\x00\x00\x00\x00\x00", "\x01\x00\x00\x00\x00\x00\x00\x00",
		"\x01\x7F\xF0\x00\x00\x00\x00\x00\x01", "\x01\x7F\xF8\x00\x00\x00\x00\x00\x01",
		"\x01\xFF\xF8\x00\x00\x00\x00\x00\x00", "\x01\xFF\xFF\xFF\xFF\xFF\xFF\xFF\xFF",
		"\x02", "\x02\x00", "\x02\x00\x01", "\x02\x00\x03ab", "\x02\x01\x02ab",
		"\x02\x00\x29" + strings.Repeat("z", 41), "\x02\xFF\xFF" + strings.Repeat("z", 65535),
		"\x02\x00\x01\xFF", "\x02\x00\x01\x80a", "\x02\x00\x02\xE2\x82", "\x02\x00\x02\xE2\x82\xAC",
		"\x02\x00\x03\xED\xA0\x80", "\x02\x00\x02\xC0\x80",
	}
}

// roomy answers a list of l's bytes with spare room behind it, and all of its room.
func roomy(l []byte) ([]byte, []byte) {
	room := append(bytes.Clone(l), bytes.Repeat([]byte{0xEE}, 80)...)
	return room[:len(l)], room
}

func expectFailed(t *testing.T, name string, r *code.Reader) {
	t.Helper()
	if v := value.Take(r); v != nothing {
		t.Errorf("%s: %+v", name, v)
	}
	if r.OK() || r.End() || r.Left() != 0 {
		t.Errorf("%s: OK %v, End %v, Left %d", name, r.OK(), r.End(), r.Left())
	}
	if x, s, v := r.Take(0), r.TakeText(40), value.Take(r); x != 0 || s != "" || v != nothing || r.OK() {
		t.Errorf("%s: behind it: %x, %q, %+v", name, x, s, v)
	}
}

func expectErrForm(t *testing.T, s string) {
	t.Helper()
	if v, e := value.Parse(s); v != nothing || e != api.ErrForm {
		t.Errorf("Parse(%q) = %+v, %d", s, v, e)
	}
}

func sideOf(a, b int) int {
	switch {
	case a < b:
		return -1
	case a > b:
		return 1
	}
	return 0
}

// P4.1

func TestFormed(t *testing.T) {
	for _, f := range rising() {
		if !value.Formed(f.v) {
			t.Errorf("%+v is formed", f.v)
		}
	}
	for _, v := range unformed() {
		if value.Formed(v) {
			t.Errorf("%+v isn't formed", v)
		}
	}
}

func TestFormedTextsOfEachLength(t *testing.T) {
	for n := range 100 {
		if got := value.Formed(text(strings.Repeat("z", n))); got != (n <= 40) {
			t.Errorf("of %d bytes: %v", n, got)
		}
	}
}

func TestFormedTextsOfEachByte(t *testing.T) {
	for c := range 256 {
		if got := value.Formed(text("a" + string([]byte{byte(c)}))); got != (c < 0x80) {
			t.Errorf("with the byte %x: %v", c, got)
		}
	}
}

func TestKey(t *testing.T) {
	for _, s := range []string{"a", "z", "0", "9", "m5", "none", "abcdefghijkl", "mnopqrstuvwx", "yz0123456789", "000000000000"} {
		if !value.Key(s) {
			t.Errorf("%q is a key", s)
		}
	}
	for _, s := range []string{
		"", " ", "A", "Z", "aB", "Ab", "a b", " a", "a ", "a\n", "\x00", "a\x00", "-", "_", "a_b", "$a", "#1", "a.b",
		"\u00E9", "a\u00E9", "\uFF41", "\xFF", "a\x80", "abcdefghijklm", "abcdefghijklM", "0123456789abc",
		"\u00E9\u00E9\u00E9\u00E9\u00E9\u00E9", strings.Repeat("a", 256+1), strings.Repeat("a", 65536),
	} {
		if value.Key(s) {
			t.Errorf("%q isn't a key", s)
		}
	}
}

func TestKeyOfEachByteAndPlace(t *testing.T) {
	const good = "abcdefghijklmnopqrstuvwxyz0123456789"
	for c := range 256 {
		want := strings.IndexByte(good, byte(c)) >= 0
		for n := 1; n <= 12; n++ {
			for at := range n {
				b := []byte(strings.Repeat("k", n))
				b[at] = byte(c)
				if got := value.Key(string(b)); got != want {
					t.Errorf("Key(%q) = %v", b, got)
				}
			}
		}
	}
}

func TestKeyOfEachLength(t *testing.T) {
	for n := range 100 {
		if got := value.Key(strings.Repeat("7", n)); got != (n >= 1 && n <= 12) {
			t.Errorf("of %d bytes: %v", n, got)
		}
	}
}

func TestCompareOfAllPairs(t *testing.T) {
	l := rising()
	for i, a := range l {
		for k, b := range l {
			if o := value.Compare(a.v, b.v); o != sideOf(i, k) {
				t.Errorf("Compare(%+v, %+v) = %d", a.v, b.v, o)
			}
		}
	}
}

func TestCompareOfUnformed(t *testing.T) {
	for _, u := range unformed() {
		for _, f := range rising() {
			if x, y := value.Compare(u, f.v), value.Compare(f.v, u); x != 0 || y != 0 {
				t.Errorf("Compare of %+v and %+v: %d, %d", u, f.v, x, y)
			}
		}
		for _, w := range unformed() {
			if o := value.Compare(u, w); o != 0 {
				t.Errorf("Compare(%+v, %+v) = %d", u, w, o)
			}
		}
	}
}

// P4.2

func TestPut(t *testing.T) {
	for _, f := range rising() {
		for _, b := range []string{"", "x", "\x01\x02\x03"} {
			if out := value.Put([]byte(b), f.v); string(out) != b+f.bytes {
				t.Errorf("Put(%q, %+v) = %x", b, f.v, out)
			}
		}
		if out := value.Put(nil, f.v); string(out) != f.bytes {
			t.Errorf("Put(nil, %+v) = %x", f.v, out)
		}
	}
}

func TestPutOfUnformed(t *testing.T) {
	for _, v := range unformed() {
		for _, b := range [][]byte{nil, {}, {7}, {1, 2, 3}} {
			if out := value.Put(b, v); !bytes.Equal(out, b) {
				t.Errorf("Put(%x, %+v) = %x", b, v, out)
			}
		}
	}
}

func allValues() []api.Value {
	l := unformed()
	for _, f := range rising() {
		l = append(l, f.v)
	}
	return l
}

func TestPutLeavesWhatItIsHanded(t *testing.T) {
	for _, v := range allValues() {
		b, room := roomy([]byte{1, 2, 3})
		before := bytes.Clone(room)
		value.Put(b, v)
		if !bytes.Equal(room, before) {
			t.Errorf("of %+v: %x, not %x", v, room, before)
		}
	}
}

func TestPutAnswersNewMemory(t *testing.T) {
	for _, v := range allValues() {
		b, room := roomy([]byte{1, 2, 3})
		before := bytes.Clone(room)
		first, second := value.Put(b, v), value.Put(b, v)
		kept := bytes.Clone(second)
		// What is appended to an answer must not reach another's memory either.
		_ = append(first, "zzzz"...)
		for i := range first {
			first[i] = 0xDD
		}
		if !bytes.Equal(room, before) || !bytes.Equal(second, kept) {
			t.Errorf("of %+v: an answer's bytes are another list's too", v)
		}
	}
}

func TestTake(t *testing.T) {
	for _, f := range rising() {
		for _, behind := range []string{"", "\x00", "ab", "\xFF\xFF"} {
			r := code.New([]byte(f.bytes + behind))
			if v := value.Take(r); v != f.v {
				t.Errorf("Take of %x: %+v", f.bytes, v)
			}
			if !r.OK() || r.Left() != len(behind) || r.End() != (behind == "") {
				t.Errorf("Take of %x: OK %v, Left %d, not %d", f.bytes, r.OK(), r.Left(), len(behind))
			}
		}
	}
}

func TestTakeFails(t *testing.T) {
	for _, b := range spoiled() {
		expectFailed(t, fmt.Sprintf("%x", b), code.New([]byte(b)))
		// Behind what was taken well it is the same.
		r := code.New([]byte("\x09\x02\x00\x01a" + b))
		if x, v := r.Take(1), value.Take(r); x != 9 || v != text("a") || !r.OK() {
			t.Errorf("ahead of %x: %x, %+v", b, x, v)
		}
		expectFailed(t, fmt.Sprintf("%x, behind others", b), r)
	}
}

func TestTakeFailsThoughBytesAreLeft(t *testing.T) {
	for _, b := range []string{
		"\x03\x00\x00", "\x01\xFF\xF8\x00\x00\x00\x00\x00\x00\x00\x00", "\x02\x00\x01\xFF\x00\x00",
		"\x02\x00\x29" + strings.Repeat("z", 41) + "\x00",
	} {
		expectFailed(t, fmt.Sprintf("%x", b), code.New([]byte(b)))
	}
}

func TestTakeOfEachKind(t *testing.T) {
	for c := 3; c < 256; c++ {
		b := append([]byte{byte(c)}, make([]byte, 60)...)
		expectFailed(t, fmt.Sprintf("the kind %d", c), code.New(b))
	}
}

func TestTakeOfEachLengthOfText(t *testing.T) {
	for n := range 100 {
		r := code.New(append([]byte{2, 0, byte(n)}, strings.Repeat("z", n)...))
		if n > 40 {
			expectFailed(t, fmt.Sprintf("of %d bytes", n), r)
		} else if v := value.Take(r); v != text(strings.Repeat("z", n)) || !r.End() {
			t.Errorf("of %d bytes: %+v, End %v", n, v, r.End())
		}
	}
}

func TestTakeOfNilAndFailedReaders(t *testing.T) {
	var none *code.Reader
	expectFailed(t, "nil", none)
	for _, f := range rising() {
		r := code.New([]byte(f.bytes))
		r.Take(9)
		expectFailed(t, "failed ahead of it", r)
	}
}

// P4.3

func TestShow(t *testing.T) {
	for _, f := range rising() {
		if s := value.Show(f.v); s != f.text {
			t.Errorf("Show(%+v) = %q, not %q", f.v, s, f.text)
		}
	}
	for _, v := range unformed() {
		if s := value.Show(v); s != "" {
			t.Errorf("Show(%+v) = %q", v, s)
		}
	}
}

func TestParse(t *testing.T) {
	for _, f := range rising() {
		if v, e := value.Parse(f.text); v != f.v || e != api.OK {
			t.Errorf("Parse(%q) = %+v, %d", f.text, v, e)
		}
	}
}

func TestParseOfEachDigitAndPlace(t *testing.T) {
	for c := range 256 {
		digit := strings.IndexByte("0123456789abcdef", byte(c))
		for at := range 16 {
			b := []byte("#0000000000000000")
			b[1+at] = byte(c)
			if digit < 0 {
				expectErrForm(t, string(b))
				continue
			}
			want := number(uint64(digit) << (4 * (15 - at)))
			if v, e := value.Parse(string(b)); v != want || e != api.OK {
				t.Errorf("Parse(%q) = %+v, %d", b, v, e)
			}
		}
	}
}

func TestParseRefuses(t *testing.T) {
	for _, s := range []string{
		"", " ", "x", "0", "1", "ab",
		"None", "NONE", "non", "nonee", "none ", " none", "none\n", "none\x00", "nothing", "nil",
		"#", "#1", "#0", "##", "#none", "#3ff000000000000", "#3ff00000000000000", "#03ff0000000000000",
		"#3FF0000000000000", "#3Ff0000000000000", "#7FF8000000000000", "#3ff000000000000A",
		" #3ff0000000000000", "#3ff0000000000000 ", "# 3ff000000000000", "#3ff0000000000000\n",
		"#+3ff000000000000", "#-3ff000000000000", "#+000000000000000", "#-000000000000000", "#0x00000000000001", "#0X00000000000001",
		"#0_00000000000001", "#000000000000000_", "#3ff000000000000g", "#3ff00000\x0000000000", "#xxxxxxxxxxxxxxxx",
		"#\uFF10\uFF10\uFF10\uFF10\uFF10x", "3ff0000000000000", "$#3ff0000000000000\xFF",
		"#7ff0000000000001", "#7ff8000000000001", "#7fffffffffffffff", "#fff0000000000001", "#fff8000000000000", "#ffffffffffffffff",
		"#10000000000000000", "#fffffffffffffffff", "#" + strings.Repeat("f", 1000), "#" + strings.Repeat("0", 17), "#" + strings.Repeat("0", 1000),
		"$\xFF", "$a\x80", "$\xC3", "$\xED\xA0\x80", "$\xC0\x80",
		"$" + strings.Repeat("z", 41), "$" + strings.Repeat("\u20AC", 14), "$" + strings.Repeat("z", 65536),
		" $", " $a", "a$", "'$a'", "@a",
	} {
		expectErrForm(t, s)
	}
}

func TestParseOfEachLengthOfText(t *testing.T) {
	for n := range 100 {
		s := strings.Repeat("z", n)
		if n > 40 {
			expectErrForm(t, "$"+s)
		} else if v, e := value.Parse("$" + s); v != text(s) || e != api.OK {
			t.Errorf("of %d bytes: %+v, %d", n, v, e)
		}
	}
}

// P4.4

func TestWhatIsPutIsTaken(t *testing.T) {
	var b []byte
	for _, f := range rising() {
		b = value.Put(b, f.v)
	}
	r := code.New(b)
	for _, f := range rising() {
		if v := value.Take(r); v != f.v {
			t.Errorf("%+v, not %+v", v, f.v)
		}
	}
	if !r.End() {
		t.Errorf("OK %v, Left %d", r.OK(), r.Left())
	}
}

func TestWhatIsPutCutOffIsNotTaken(t *testing.T) {
	for _, f := range rising() {
		b := value.Put(nil, f.v)
		for n := range len(b) {
			expectFailed(t, fmt.Sprintf("%d bytes of %+v", n, f.v), code.New(b[:n]))
		}
	}
}

func TestWhatIsShownIsParsed(t *testing.T) {
	for _, f := range rising() {
		if v, e := value.Parse(value.Show(f.v)); v != f.v || e != api.OK {
			t.Errorf("%+v: %+v, %d", f.v, v, e)
		}
	}
}

func TestAlikeJustIfTheSame(t *testing.T) {
	l := rising()
	for _, a := range l {
		for _, b := range l {
			if (value.Compare(a.v, b.v) == 0) != (a.v == b.v) {
				t.Errorf("%+v, %+v: alike, but not the same, or the other way round", a.v, b.v)
			}
		}
	}
}

// formedAsWritten answers the chapter's words on formed values by other means than the package's.
func formedAsWritten(v api.Value) bool {
	switch v.Kind {
	case 0:
		return v.Bits == 0 && v.Text == ""
	case 1:
		return v.Text == "" && (v.Bits&^minusZero <= inf || v.Bits == canonNaN)
	case 2:
		return v.Bits == 0 && len(v.Text) <= 40 && utf8.ValidString(v.Text)
	}
	return false
}

func FuzzValues(f *testing.F) {
	for _, v := range allValues() {
		f.Add([]byte{}, v.Kind, v.Bits, v.Text, 1, one, "")
		f.Add([]byte{9}, v.Kind, v.Bits, v.Text, 2, uint64(0), "ab")
	}
	f.Fuzz(func(t *testing.T, b []byte, kind int, bits uint64, s string, kind2 int, bits2 uint64, s2 string) {
		v, w := api.Value{Kind: kind, Bits: bits, Text: s}, api.Value{Kind: kind2, Bits: bits2, Text: s2}
		formed := formedAsWritten(v)
		if value.Formed(v) != formed {
			t.Fatalf("Formed(%+v) = %v", v, !formed)
		}
		out, shown, side := value.Put(b, v), value.Show(v), value.Compare(v, w)
		if side != -value.Compare(w, v) {
			t.Errorf("%+v, %+v: not the same from both sides", v, w)
		}
		if !formed {
			if !bytes.Equal(out, b) || shown != "" || side != 0 {
				t.Errorf("%+v: %x, %q, %d", v, out, shown, side)
			}
			return
		}
		if formedAsWritten(w) && (side == 0) != (v == w) {
			t.Errorf("Compare(%+v, %+v) = %d", v, w, side)
		}
		if !bytes.HasPrefix(out, b) {
			t.Fatalf("%x isn't the beginning of %x", b, out)
		}
		r := code.New(out[len(b):])
		if u := value.Take(r); u != v || !r.End() {
			t.Errorf("%+v: %+v taken, End %v", v, u, r.End())
		}
		if u, e := value.Parse(shown); u != v || e != api.OK {
			t.Errorf("%+v: %+v parsed, %d", v, u, e)
		}
	})
}

func FuzzTakeOfAnyBytes(f *testing.F) {
	for _, g := range rising() {
		f.Add([]byte(g.bytes + "x"))
	}
	for _, b := range spoiled() {
		f.Add([]byte(b))
	}
	f.Fuzz(func(t *testing.T, b []byte) {
		r := code.New(b)
		v := value.Take(r)
		if !r.OK() {
			if v != nothing {
				t.Errorf("Take of %x: %+v", b, v)
			}
			return
		}
		used := b[:len(b)-r.Left()]
		if !formedAsWritten(v) || !bytes.Equal(value.Put(nil, v), used) {
			t.Errorf("Take of %x: %+v of %x", b, v, used)
		}
	})
}

func FuzzParseOfAnyText(f *testing.F) {
	for _, g := range rising() {
		f.Add(g.text)
	}
	f.Add("#3FF0000000000000")
	f.Add("#1")
	f.Fuzz(func(t *testing.T, s string) {
		v, e := value.Parse(s)
		switch {
		case e == api.OK && (!formedAsWritten(v) || value.Show(v) != s):
			t.Errorf("Parse(%q) = %+v", s, v)
		case e != api.OK && (e != api.ErrForm || v != nothing):
			t.Errorf("Parse(%q) = %+v, %d", s, v, e)
		}
	})
}
