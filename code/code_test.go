package code_test

import (
	"bytes"
	"math"
	"strings"
	"testing"

	"parish/code"
)

// roomy answers a list of l's bytes with spare room behind it, and all of its room.
func roomy(l []byte) ([]byte, []byte) {
	room := append(bytes.Clone(l), bytes.Repeat([]byte{0xEE}, 64)...)
	return room[:len(l)], room
}

// expectFailed asks all that a reader that has failed must answer, and that nothing mends it.
func expectFailed(t *testing.T, name string, r *code.Reader) {
	t.Helper()
	for range 2 {
		if r.OK() || r.End() || r.Left() != 0 {
			t.Errorf("%s: OK %v, End %v, Left %d", name, r.OK(), r.End(), r.Left())
		}
		for n := -1; n <= 9; n++ {
			if x := r.Take(n); x != 0 {
				t.Errorf("%s: failed, Take(%d) = %d", name, n, x)
			}
		}
		for _, most := range []int{-1, 0, 1, 65535, math.MaxInt} {
			if s := r.TakeText(most); s != "" {
				t.Errorf("%s: failed, TakeText(%d) = %q", name, most, s)
			}
		}
	}
}

// expectWell asks that a reader is well and has that many bytes left.
func expectWell(t *testing.T, name string, r *code.Reader, left int) {
	t.Helper()
	if !r.OK() || r.Left() != left || r.End() != (left == 0) {
		t.Errorf("%s: OK %v, End %v, Left %d, not %d", name, r.OK(), r.End(), r.Left(), left)
	}
}

// P2.1

func TestPut(t *testing.T) {
	const x = 0x0102030405060708
	for _, c := range []struct {
		b    string
		x    uint64
		n    int
		want string
	}{
		{"", 258, 2, "\x01\x02"},
		{"\x09", 258, 2, "\x09\x01\x02"},
		{"", x, 0, ""},
		{"", x, 1, "\x08"},
		{"", x, 2, "\x07\x08"},
		{"", x, 3, "\x06\x07\x08"},
		{"", x, 4, "\x05\x06\x07\x08"},
		{"", x, 5, "\x04\x05\x06\x07\x08"},
		{"", x, 6, "\x03\x04\x05\x06\x07\x08"},
		{"", x, 7, "\x02\x03\x04\x05\x06\x07\x08"},
		{"", x, 8, "\x01\x02\x03\x04\x05\x06\x07\x08"},
		{"", x, 9, "\x01\x02\x03\x04\x05\x06\x07\x08"},
		{"ab", x, math.MaxInt, "ab\x01\x02\x03\x04\x05\x06\x07\x08"},
		{"ab", x, 0, "ab"},
		{"ab", x, -1, "ab"},
		{"ab", x, math.MinInt, "ab"},
		{"ab", 0, 3, "ab\x00\x00\x00"},
		{"", 5, 8, "\x00\x00\x00\x00\x00\x00\x00\x05"},
		{"", math.MaxUint64, 8, "\xFF\xFF\xFF\xFF\xFF\xFF\xFF\xFF"},
		{"", 1 << 63, 8, "\x80\x00\x00\x00\x00\x00\x00\x00"},
		{"", 0x1FF, 1, "\xFF"},
		{"", 0x10000, 2, "\x00\x00"},
	} {
		if out := code.Put([]byte(c.b), c.x, c.n); string(out) != c.want {
			t.Errorf("Put(%q, %x, %d) = %x, not %x", c.b, c.x, c.n, out, c.want)
		}
	}
}

func TestPutBehindNone(t *testing.T) {
	for _, b := range [][]byte{nil, {}, make([]byte, 0, 8)} {
		if out := code.Put(b, 7, 1); string(out) != "\x07" {
			t.Errorf("Put: %x", out)
		}
		if out := code.Put(b, 7, 0); len(out) != 0 {
			t.Errorf("Put of no bytes: %x", out)
		}
		if out := code.PutText(b, ""); string(out) != "\x00\x00" {
			t.Errorf("PutText: %x", out)
		}
	}
}

func TestPutText(t *testing.T) {
	for _, c := range []struct {
		name, b, s, want string
	}{
		{"as written", "", "ab", "\x00\x02ab"},
		{"behind others", "\x09\x08", "ab", "\x09\x08\x00\x02ab"},
		{"empty", "", "", "\x00\x00"},
		{"empty, behind others", "x", "", "x\x00\x00"},
		{"bytes that are no UTF-8", "", "\xFF\x00\x80", "\x00\x03\xFF\x00\x80"},
		{"counted by bytes", "", "\u00E9\u20AC", "\x00\x05\xC3\xA9\xE2\x82\xAC"},
		{"255", "", strings.Repeat("q", 255), "\x00\xFF" + strings.Repeat("q", 255)},
		{"256", "", strings.Repeat("q", 256), "\x01\x00" + strings.Repeat("q", 256)},
	} {
		if out := code.PutText([]byte(c.b), c.s); string(out) != c.want {
			t.Errorf("%s: %x, not %x", c.name, out, c.want)
		}
	}
}

func TestPutTextHoldsLongOnesToTheirFirstBytes(t *testing.T) {
	long := strings.Repeat("0123456789", 14000)
	for _, c := range []struct{ n, kept int }{
		{65534, 65534}, {65535, 65535}, {65536, 65535}, {65537, 65535}, {131072, 65535}, {140000, 65535},
	} {
		out := code.PutText([]byte{7}, long[:c.n])
		want := "\x07" + string([]byte{byte(c.kept >> 8), byte(c.kept)}) + long[:c.kept]
		if string(out) != want {
			t.Errorf("of %d bytes: %d of them, with the length %x", c.n, len(out)-3, out[1:3])
		}
	}
}

func TestPutLeavesWhatItIsHanded(t *testing.T) {
	b, room := roomy([]byte{1, 2, 3})
	before := bytes.Clone(room)
	for n := -1; n <= 9; n++ {
		code.Put(b, math.MaxUint64, n)
		code.PutText(b, strings.Repeat("x", n+1))
		if !bytes.Equal(room, before) {
			t.Fatalf("of %d: %x, not %x", n, room, before)
		}
	}
}

func TestPutAnswersNewMemory(t *testing.T) {
	for n := -1; n <= 9; n++ {
		b, room := roomy([]byte{1, 2, 3})
		before := bytes.Clone(room)
		first, second := code.Put(b, 0x1111111111111111, n), code.Put(b, 0x2222222222222222, n)
		kept := bytes.Clone(second)
		for _, out := range [][]byte{first, code.PutText(b, "abc"), code.PutText(b, "")} {
			// What is appended to an answer must not reach another's memory either.
			_ = append(out, "zzzz"...)
			for i := range out {
				out[i] = 0xDD
			}
		}
		if !bytes.Equal(room, before) || !bytes.Equal(second, kept) {
			t.Errorf("of %d: an answer's bytes are another list's too", n)
		}
	}
}

// P2.2

func TestTake(t *testing.T) {
	b := []byte{0x81, 2, 3, 4, 5, 6, 7, 8, 9}
	for n, want := range []uint64{
		0, 0x81, 0x8102, 0x810203, 0x81020304, 0x8102030405, 0x810203040506, 0x81020304050607, 0x8102030405060708,
	} {
		r := code.New(b)
		if x := r.Take(n); x != want {
			t.Errorf("Take(%d) = %x, not %x", n, x, want)
		}
		expectWell(t, "taken", r, len(b)-n)
	}
}

func TestTakeGoesOnFromWhereItWas(t *testing.T) {
	r := code.New([]byte{1, 2, 3, 4, 5, 6})
	if x := r.Take(1); x != 1 {
		t.Errorf("the first: %x", x)
	}
	if x := r.Take(2); x != 0x0203 {
		t.Errorf("the next two: %x", x)
	}
	if x := r.Take(0); x != 0 {
		t.Errorf("none: %x", x)
	}
	expectWell(t, "half", r, 3)
	if x := r.Take(3); x != 0x040506 {
		t.Errorf("the last three: %x", x)
	}
	expectWell(t, "end", r, 0)
	if x := r.Take(0); x != 0 {
		t.Errorf("none at the end: %x", x)
	}
	expectWell(t, "none taken at the end", r, 0)
	if x := r.Take(1); x != 0 {
		t.Errorf("past the end: %x", x)
	}
	expectFailed(t, "past the end", r)
}

func TestTakeFails(t *testing.T) {
	long := bytes.Repeat([]byte{0xFF}, 20)
	for _, c := range []struct {
		name string
		b    []byte
		n    int
	}{
		{"below 0", long, -1},
		{"far below 0", long, math.MinInt},
		{"above 8", long, 9},
		{"far above 8", long, math.MaxInt},
		{"below 0, of none", nil, -1},
		{"above 8, of none", nil, 9},
		{"one of none", nil, 1},
		{"two of one", long[:1], 2},
		{"eight of seven", long[:7], 8},
	} {
		r := code.New(c.b)
		if x := r.Take(c.n); x != 0 {
			t.Errorf("%s: %x", c.name, x)
		}
		expectFailed(t, c.name, r)
	}
}

func TestTakeFailsInTheMidst(t *testing.T) {
	for _, n := range []int{-1, 4, 9} {
		r := code.New([]byte{1, 2, 3, 4})
		if x := r.Take(1); x != 1 {
			t.Errorf("the first: %x", x)
		}
		if x := r.Take(n); x != 0 {
			t.Errorf("Take(%d) = %x", n, x)
		}
		expectFailed(t, "in the midst", r)
	}
}

func TestTakeText(t *testing.T) {
	for _, c := range []struct {
		name, b string
		most    int
		want    string
		left    int
	}{
		{"as written", "\x00\x02ab", 2, "ab", 0},
		{"shorter than the most", "\x00\x02ab", 3, "ab", 0},
		{"any most", "\x00\x02ab", math.MaxInt, "ab", 0},
		{"others behind", "\x00\x02abcd", 2, "ab", 2},
		{"empty", "\x00\x00", 0, "", 0},
		{"empty, others behind", "\x00\x00\x05", 40, "", 1},
		{"no UTF-8", "\x00\x03\xFF\x00\x80", 3, "\xFF\x00\x80", 0},
		{"256", "\x01\x00" + strings.Repeat("q", 256), 256, strings.Repeat("q", 256), 0},
		{"the longest", "\xFF\xFF" + strings.Repeat("q", 65536), 65535, strings.Repeat("q", 65535), 1},
	} {
		r := code.New([]byte(c.b))
		if s := r.TakeText(c.most); s != c.want {
			t.Errorf("%s: %q, not %q", c.name, s, c.want)
		}
		expectWell(t, c.name, r, c.left)
	}
}

func TestTakeTextFails(t *testing.T) {
	for _, c := range []struct {
		name, b string
		most    int
	}{
		{"no bytes", "", 40},
		{"half a length", "\x00", 40},
		{"half a length that is too great", "\x05", 2},
		{"no text", "\x00\x01", 40},
		{"one byte missing", "\x00\x03ab", 40},
		{"one byte more than the most", "\x00\x02ab", 1},
		{"more than none", "\x00\x01a", 0},
		{"empty, the most below 0", "\x00\x00", -1},
		{"the most far below 0", "\x00\x02ab", math.MinInt},
		{"neither whole nor short enough", "\x00\x05ab", 1},
		{"the length's first byte counts", "\x01\x02ab", 40},
		{"the longest, one byte missing", "\xFF\xFF" + strings.Repeat("q", 65534), math.MaxInt},
		{"the longest, the most one less", "\xFF\xFF" + strings.Repeat("q", 65535), 65534},
	} {
		r := code.New([]byte(c.b))
		if s := r.TakeText(c.most); s != "" {
			t.Errorf("%s: %q", c.name, s)
		}
		expectFailed(t, c.name, r)
	}
}

func TestReaderOfNone(t *testing.T) {
	for _, b := range [][]byte{nil, {}, make([]byte, 0, 8)} {
		r := code.New(b)
		expectWell(t, "of none", r, 0)
		if x := r.Take(0); x != 0 {
			t.Errorf("none: %x", x)
		}
		expectWell(t, "of none, none taken", r, 0)
	}
}

func TestReaderDoesNotReachSpareRoom(t *testing.T) {
	b, _ := roomy([]byte{1})
	r := code.New(b)
	if x := r.Take(2); x != 0 {
		t.Errorf("%x", x)
	}
	expectFailed(t, "into the spare room", r)
}

func TestNilReaderHasFailed(t *testing.T) {
	var r *code.Reader
	expectFailed(t, "nil", r)
}

func TestAskingChangesNothing(t *testing.T) {
	r := code.New([]byte{1, 2, 3})
	for range 3 {
		expectWell(t, "asked", r, 3)
	}
	if x := r.Take(3); x != 0x010203 {
		t.Errorf("%x", x)
	}
}

func TestReaderKeepsNothingOfTheBytes(t *testing.T) {
	b := []byte{1, 2, 0, 2, 'a', 'b'}
	r := code.New(b)
	if x := r.Take(1); x != 1 {
		t.Errorf("the first: %x", x)
	}
	copy(b, bytes.Repeat([]byte{0xFF}, len(b)))
	if x, s := r.Take(1), r.TakeText(2); x != 2 || s != "ab" || !r.End() {
		t.Errorf("%x, %q, End %v", x, s, r.End())
	}
}

func TestReaderLeavesTheBytesAsTheyAre(t *testing.T) {
	b, room := roomy([]byte{1, 0, 2, 'a', 'b', 3})
	before := bytes.Clone(room)
	r := code.New(b)
	r.Take(1)
	r.TakeText(2)
	r.Take(9)
	if !bytes.Equal(room, before) {
		t.Errorf("%x, not %x", room, before)
	}
}

func TestReadersDoNotHangOnOneAnother(t *testing.T) {
	b := []byte{1, 2, 3}
	r, s := code.New(b), code.New(b)
	r.Take(2)
	expectWell(t, "the other", s, 3)
	r.Take(9)
	expectWell(t, "the other", s, 3)
	if x := s.Take(3); x != 0x010203 {
		t.Errorf("%x", x)
	}
	expectFailed(t, "the one", r)
}

// P2.3

// field is a number of n bytes, or, with n below 0, a text.
type field struct {
	n    int
	x    uint64
	text string
}

func putAll(fields []field) []byte {
	var b []byte
	for _, f := range fields {
		if f.n < 0 {
			b = code.PutText(b, f.text)
		} else {
			b = code.Put(b, f.x, f.n)
		}
	}
	return b
}

// takeAll takes the fields that were put, and tells at which it found another, or len(fields).
func takeAll(r *code.Reader, fields []field) int {
	for i, f := range fields {
		if f.n < 0 && r.TakeText(len(f.text)) != f.text {
			return i
		}
		if f.n >= 0 && r.Take(f.n) != f.x {
			return i
		}
	}
	return len(fields)
}

func someFields() []field {
	return []field{
		{n: 1, x: 255}, {n: -1, text: "ab"}, {n: 0}, {n: 8, x: math.MaxUint64}, {n: -1}, {n: 2, x: 258},
		{n: 3, x: 1 << 16}, {n: -1, text: strings.Repeat("\xFE", 300)}, {n: 8, x: 1 << 63}, {n: 4, x: 7},
		{n: 5, x: 1 << 39}, {n: 6, x: 1<<48 - 1}, {n: 7, x: 1 << 48}, {n: -1, text: "\u20AC"}, {n: 8},
	}
}

func TestWhatIsPutIsTaken(t *testing.T) {
	fields := someFields()
	r := code.New(putAll(fields))
	if at := takeAll(r, fields); at != len(fields) {
		t.Errorf("the field %d is another", at)
	}
	expectWell(t, "to the end", r, 0)
}

func TestWhatIsPutCutOffIsNotTaken(t *testing.T) {
	fields := someFields()
	b := putAll(fields)
	for n := range len(b) {
		r := code.New(b[:n])
		takeAll(r, fields)
		expectFailed(t, "cut off", r)
	}
}

func FuzzWhatIsPutIsTaken(f *testing.F) {
	f.Add([]byte{}, uint64(258), 2, "ab", "")
	f.Add([]byte{9}, uint64(math.MaxUint64), 9, "", "\xFF")
	f.Add([]byte{9, 8}, uint64(1)<<40, -1, "\u20AC", strings.Repeat("q", 70000))
	f.Fuzz(func(t *testing.T, b []byte, x uint64, n int, s, u string) {
		out := code.PutText(code.PutText(code.Put(b, x, n), s), u)
		if !bytes.HasPrefix(out, b) {
			t.Fatalf("%x isn't the beginning of %x", b, out)
		}
		held := min(max(n, 0), 8)
		want := x
		if held < 8 {
			want = x & (1<<(8*held) - 1)
		}
		r := code.New(out[len(b):])
		if y := r.Take(held); y != want {
			t.Errorf("%x of %d bytes: %x", x, n, y)
		}
		for _, w := range []string{s, u} {
			w = w[:min(len(w), 65535)]
			if v := r.TakeText(len(w)); v != w {
				t.Errorf("%q: %q", w, v)
			}
		}
		expectWell(t, "to the end", r, 0)
	})
}

func FuzzReaderOfAnyBytes(f *testing.F) {
	f.Add([]byte{0, 2, 'a', 'b'}, 2, 2)
	f.Add([]byte{0, 0, 3}, -1, 9)
	f.Add([]byte{0xFF}, 40, 0)
	f.Fuzz(func(t *testing.T, b []byte, most, n int) {
		r := code.New(b)
		s := r.TakeText(most)
		whole := len(b) >= 2 && len(b)-2 >= int(b[0])<<8+int(b[1]) && int(b[0])<<8+int(b[1]) <= most
		if !whole {
			if s != "" {
				t.Errorf("TakeText(%d) of %x: %q", most, b, s)
			}
			expectFailed(t, "no text", r)
			return
		}
		if want := string(b[2 : 2+int(b[0])<<8+int(b[1])]); s != want {
			t.Errorf("TakeText(%d) of %x: %q, not %q", most, b, s, want)
		}
		left := len(b) - 2 - len(s)
		expectWell(t, "a text", r, left)
		r.Take(n)
		if n >= 0 && n <= 8 && n <= left {
			expectWell(t, "a number", r, left-n)
		} else {
			expectFailed(t, "no number", r)
		}
	})
}
