package frame_test

import (
	"bytes"
	"encoding/binary"
	"hash/crc32"
	"runtime"
	"slices"
	"strings"
	"testing"

	"parish/api"
	"parish/frame"
)

// roomy answers a list of l's bytes with spare room behind it, and all of its room.
func roomy(l []byte) ([]byte, []byte) {
	room := append(bytes.Clone(l), bytes.Repeat([]byte{0xEE}, 64)...)
	return room[:len(l)], room
}

// headed answers bytes that begin as a frame does: a length, a sum, and what is behind them.
func headed(length, sum uint32, behind string) []byte {
	b := binary.BigEndian.AppendUint32(nil, length)
	return append(binary.BigEndian.AppendUint32(b, sum), behind...)
}

// framed answers the body's frame, reckoned without the package.
func framed(body string) []byte {
	return headed(uint32(len(body)), crc32.ChecksumIEEE([]byte(body)), body)
}

// mixed answers n bytes that don't repeat soon.
func mixed(n int) string {
	b, x := make([]byte, n), uint32(1)
	for i := range b {
		x = x*1664525 + 1013904223
		b[i] = byte(x >> 24)
	}
	return string(b)
}

func expectUnwrapped(t *testing.T, name string, b []byte, want string) {
	t.Helper()
	body, n, e := frame.Unwrap(b)
	if string(body) != want || n != 8+len(want) || e != api.OK {
		t.Errorf("%s: %d bytes of body, %d in all, error %d", name, len(body), n, e)
	}
}

func expectRefused(t *testing.T, name string, b []byte, want api.Errno) {
	t.Helper()
	body, n, e := frame.Unwrap(b)
	if len(body) != 0 || n != 0 || e != want {
		t.Errorf("%s: %d bytes of body, %d in all, error %d, not %d", name, len(body), n, e, want)
	}
}

func expectAll(t *testing.T, name string, b []byte, want []string, used int) {
	t.Helper()
	bodies, n := frame.All(b)
	same := slices.EqualFunc(bodies, want, func(x []byte, s string) bool { return string(x) == s })
	if !same || n != used {
		t.Errorf("%s: %d bodies of %d bytes, not %d of %d", name, len(bodies), n, len(want), used)
	}
}

// P3.1

func TestSum(t *testing.T) {
	for _, c := range []struct {
		b    string
		want uint32
	}{
		{"", 0},
		{"123456789", 0xCBF43926},
		{"a", 0xE8B7BE43},
		{"\x00", 0xD202EF8D},
		{"\xFF", 0xFF000000},
		{"\x00\x00\x00\x00", 0x2144DF1C},
		{"\xFF\xFF\xFF\xFF", 0xFFFFFFFF},
		{"The quick brown fox jumps over the lazy dog", 0x414FA339},
	} {
		if sum := frame.Sum([]byte(c.b)); sum != c.want {
			t.Errorf("Sum(%q) = %08X, not %08X", c.b, sum, c.want)
		}
	}
	for _, b := range [][]byte{nil, {}, make([]byte, 0, 8)} {
		if sum := frame.Sum(b); sum != 0 {
			t.Errorf("Sum of none = %08X", sum)
		}
	}
}

func TestSumOfEachByteAndLength(t *testing.T) {
	for c := range 256 {
		b := []byte{byte(c), 7, byte(c)}
		if sum, want := frame.Sum(b), crc32.ChecksumIEEE(b); sum != want {
			t.Errorf("Sum(%x) = %08X, not %08X", b, sum, want)
		}
	}
	long := []byte(mixed(70000))
	for _, n := range []int{1, 2, 3, 4, 5, 7, 8, 9, 255, 256, 60000, 60001, 70000} {
		if sum, want := frame.Sum(long[:n]), crc32.ChecksumIEEE(long[:n]); sum != want {
			t.Errorf("Sum of %d bytes = %08X, not %08X", n, sum, want)
		}
	}
}

func TestWrap(t *testing.T) {
	for _, c := range []struct{ name, body, want string }{
		{"none", "", "\x00\x00\x00\x00\x00\x00\x00\x00"},
		{"as summed", "123456789", "\x00\x00\x00\x09\xCB\xF4\x39\x26123456789"},
		{"one", "a", "\x00\x00\x00\x01\xE8\xB7\xBE\x43a"},
		{"255", mixed(255), string(framed(mixed(255)))},
		{"256", mixed(256), string(framed(mixed(256)))},
		{"one less than the longest", mixed(59999), string(framed(mixed(59999)))},
		{"the longest", mixed(60000), string(framed(mixed(60000)))},
	} {
		b, e := frame.Wrap([]byte(c.body))
		if string(b) != c.want || e != api.OK {
			t.Errorf("%s: %d bytes, error %d", c.name, len(b), e)
		}
	}
	if b, e := frame.Wrap(nil); !bytes.Equal(b, make([]byte, 8)) || e != api.OK {
		t.Errorf("nil: %x, error %d", b, e)
	}
}

func TestWrapOfTooMuch(t *testing.T) {
	for _, n := range []int{60001, 65536, 200000} {
		if b, e := frame.Wrap(make([]byte, n)); len(b) != 0 || e != api.ErrLong {
			t.Errorf("of %d bytes: %d bytes, error %d", n, len(b), e)
		}
	}
}

func TestUnwrap(t *testing.T) {
	for _, body := range []string{"", "a", "ab", "123456789", mixed(255), mixed(256), mixed(59999), mixed(60000)} {
		b := framed(body)
		expectUnwrapped(t, "alone", b, body)
		expectUnwrapped(t, "a byte behind", append(bytes.Clone(b), 7), body)
		expectUnwrapped(t, "another behind", append(bytes.Clone(b), framed("zz")...), body)
		expectUnwrapped(t, "a bad one behind", append(bytes.Clone(b), headed(70000, 5, "zz")...), body)
		made, _ := frame.Wrap([]byte(body))
		expectUnwrapped(t, "wrapped", made, body)
	}
}

func TestUnwrapRefuses(t *testing.T) {
	for _, c := range []struct {
		name string
		b    []byte
		want api.Errno
	}{
		{"nil", nil, api.ErrShort},
		{"no bytes", []byte{}, api.ErrShort},
		{"seven zeros", make([]byte, 7), api.ErrShort},
		{"seven, the length too great", []byte{255, 255, 255, 255, 0, 0, 0}, api.ErrShort},
		{"one above the longest, none there", headed(60001, 0, ""), api.ErrLong},
		{"one above the longest, all there", framed(mixed(60001)), api.ErrLong},
		{"2^16", headed(1<<16, 0, ""), api.ErrLong},
		{"2^24", headed(1<<24, 0, ""), api.ErrLong},
		{"2^31 - 1", headed(1<<31-1, 0, ""), api.ErrLong},
		{"2^31", headed(1<<31, 0, ""), api.ErrLong},
		{"2^32 - 1", headed(1<<32-1, 0, ""), api.ErrLong},
		{"the longest, none there", headed(60000, 0, ""), api.ErrShort},
		{"the longest, one missing", framed(mixed(60000))[:60007], api.ErrShort},
		{"no body", framed("ab")[:8], api.ErrShort},
		{"one byte missing", framed("ab")[:9], api.ErrShort},
		{"one byte missing, and a wrong sum", headed(2, 5, "a"), api.ErrShort},
		{"none, with a sum", headed(0, 1, ""), api.ErrSum},
		{"a wrong sum", headed(2, 5, "ab"), api.ErrSum},
		{"all bits of the sum turned", headed(9, ^uint32(0xCBF43926), "123456789"), api.ErrSum},
		{"the sum backwards", headed(9, 0x2639F4CB, "123456789"), api.ErrSum},
		{"the sum of more than the body", headed(2, crc32.ChecksumIEEE([]byte("abc")), "abc"), api.ErrSum},
		{"the length another", headed(1, crc32.ChecksumIEEE([]byte("ab")), "ab"), api.ErrSum},
		{"length and sum the other way round", headed(0xCBF43926, 9, "123456789"), api.ErrLong},
	} {
		expectRefused(t, c.name, c.b, c.want)
	}
}

func TestEachBitOfTheSumCounts(t *testing.T) {
	for bit := range 32 {
		expectRefused(t, "a bit of the sum", headed(9, 0xCBF43926^1<<bit, "123456789"), api.ErrSum)
	}
}

func TestSpareRoomIsNotReached(t *testing.T) {
	whole := framed("ab")
	expectRefused(t, "a head in the spare room", whole[:7], api.ErrShort)
	expectRefused(t, "a body in the spare room", whole[:9], api.ErrShort)
	expectAll(t, "frames in the spare room", append(framed("a"), whole...)[:18], []string{"a"}, 9)
}

// P3.2

func TestAll(t *testing.T) {
	long := mixed(60000)
	for _, c := range []struct {
		name   string
		bodies []string
		behind []byte
	}{
		{"none", nil, nil},
		{"one", []string{"ab"}, nil},
		{"an empty one", []string{""}, nil},
		{"empty ones", []string{"", "", ""}, nil},
		{"several", []string{"ab", "", "c", "123456789"}, nil},
		{"long ones", []string{long, "a", long}, nil},
		{"the same ones", []string{"ab", "ab", "ab"}, nil},
		{"half a head behind", []string{"ab", "c"}, []byte{0, 0, 0, 1}},
		{"a head behind", []string{"ab", "c"}, framed("zz")[:8]},
		{"half a body behind", []string{"ab", "c"}, framed("zz")[:9]},
		{"a wrong sum behind", []string{"ab", "c"}, headed(2, 5, "zz")},
		{"a length too great behind", []string{"ab", "c"}, headed(60001, 0, mixed(60001))},
		{"a bad one only", nil, headed(2, 5, "zz")},
		{"a byte only", nil, []byte{0}},
	} {
		var b []byte
		for _, body := range c.bodies {
			b = append(b, framed(body)...)
		}
		used := len(b)
		expectAll(t, c.name, append(b, c.behind...), c.bodies, used)
	}
}

func TestAllEndsAtTheFirstBadOne(t *testing.T) {
	good := framed("ab")
	for _, bad := range [][]byte{headed(2, 5, "zz"), headed(60001, 0, ""), headed(0, 1, "")} {
		expectAll(t, "good, bad, good", slices.Concat(good, bad, good), []string{"ab"}, 10)
		expectAll(t, "bad, good", slices.Concat(bad, good), nil, 0)
	}
	// A frame within a body, or behind a stray byte, stands at no frame's place.
	expectAll(t, "one within another", framed(string(good)), []string{string(good)}, 18)
	expectAll(t, "behind a stray byte", append([]byte{1}, good...), nil, 0)
}

func TestAllOfMany(t *testing.T) {
	const many = 20000
	b := bytes.Repeat(framed("a"), many)
	var before, after runtime.MemStats
	runtime.ReadMemStats(&before)
	bodies, n := frame.All(b)
	runtime.ReadMemStats(&after)
	if len(bodies) != many || n != len(b) {
		t.Errorf("%d bodies of %d bytes", len(bodies), n)
	}
	// To copy what is left at each frame would take many times as much.
	if made := after.TotalAlloc - before.TotalAlloc; made > 200*uint64(len(b)) {
		t.Errorf("of %d bytes, %d bytes of memory were made", len(b), made)
	}
}

// R5: what is handed in, and what is answered

func TestWhatIsHandedInIsLeft(t *testing.T) {
	for _, l := range [][]byte{nil, []byte("ab"), framed("ab"), append(framed("ab"), framed("")...), headed(2, 5, "zz"), headed(60001, 0, "")} {
		b, room := roomy(l)
		before := bytes.Clone(room)
		frame.Sum(b)
		frame.Wrap(b)
		frame.Unwrap(b)
		frame.All(b)
		if !bytes.Equal(room, before) {
			t.Errorf("%x, not %x", room, before)
		}
	}
}

// spoil writes over all of a list, and behind it.
func spoil(b []byte) {
	_ = append(b, "zzzz"...)
	for i := range b {
		b[i] = 0xDD
	}
}

func TestAnswersAreNewMemory(t *testing.T) {
	b, room := roomy(slices.Concat(framed("ab"), framed(""), framed("cde")))
	before := bytes.Clone(room)
	body, _, _ := frame.Unwrap(b)
	spoil(body)
	bodies, _ := frame.All(b)
	spoil(bodies[0])
	spoil(bodies[1])
	if string(bodies[2]) != "cde" || string(bodies[1]) != "" {
		t.Errorf("a body's bytes are another's too: %q", bodies)
	}
	spoil(bodies[2])
	first, _ := frame.Wrap(b)
	second, _ := frame.Wrap(b)
	spoil(first)
	if !bytes.Equal(second, framed(string(b))) || !bytes.Equal(room, before) {
		t.Error("an answer's bytes are another list's too")
	}
}

func TestAnswersDoNotHangOnWhatWasHandedIn(t *testing.T) {
	in, b := []byte("ab"), framed("ab")
	made, _ := frame.Wrap(in)
	body, _, _ := frame.Unwrap(b)
	bodies, _ := frame.All(b)
	spoil(in)
	spoil(b)
	if !bytes.Equal(made, framed("ab")) || string(body) != "ab" || string(bodies[0]) != "ab" {
		t.Errorf("%x, %q, %q", made, body, bodies)
	}
}

// P3.3

func TestFramesCutOffAnywhere(t *testing.T) {
	bodies := []string{"ab", "", "", "123456789", mixed(300), "", "z"}
	var b []byte
	var ends []int
	for _, body := range bodies {
		made, e := frame.Wrap([]byte(body))
		if e != api.OK {
			t.Fatalf("Wrap: error %d", e)
		}
		b = append(b, made...)
		ends = append(ends, len(b))
	}
	for n := range len(b) + 1 {
		whole, used := 0, 0
		for whole < len(ends) && ends[whole] <= n {
			used = ends[whole]
			whole++
		}
		expectAll(t, "cut off", b[:n], bodies[:whole], used)
	}
}

// expectTold asks that a frame with that mask laid over its body, from the place at on, is told by its sum.
func expectTold(t *testing.T, body string, at int, mask []byte) {
	t.Helper()
	b, _ := frame.Wrap([]byte(body))
	for i, m := range mask {
		b[8+at+i] ^= m
	}
	expectRefused(t, "turned", b, api.ErrSum)
	expectAll(t, "turned, behind another", append(framed("q"), b...), []string{"q"}, 9)
}

func TestTurnedBytesAreTold(t *testing.T) {
	for _, body := range []string{"a", "abcd", "123456789", strings.Repeat("\x00", 20), mixed(40)} {
		for at := range len(body) {
			for m := 1; m < 256; m++ {
				expectTold(t, body, at, []byte{byte(m)})
			}
			for _, mask := range []string{
				"\x01\x01", "\x80\x01", "\x01\x80", "\xFF\xFF", "\x01\x00\x01", "\x80\x00\x80", "\xFF\xFF\xFF",
				"\x01\x00\x00\x01", "\x80\x00\x00\x80", "\x01\x00\x00\x80", "\xFF\xFF\xFF\xFF",
				// The polynomial as bytes either way, which a sum that isn't reflected, or begins in another way, may not see.
				"\xED\xB8\x83\x20", "\x20\x83\xB8\xED", "\x04\xC1\x1D\xB7", "\xB7\x1D\xC1\x04",
			} {
				if at+len(mask) <= len(body) {
					expectTold(t, body, at, []byte(mask))
				}
			}
		}
	}
	for _, at := range []int{0, 1, 30000, 59996} {
		expectTold(t, mixed(60000), at, []byte{0xFF, 1, 0x80, 0xFF})
	}
}

func FuzzSumIsTheCRC(f *testing.F) {
	f.Add([]byte{})
	f.Add([]byte("123456789"))
	f.Fuzz(func(t *testing.T, b []byte) {
		if sum, want := frame.Sum(b), crc32.ChecksumIEEE(b); sum != want {
			t.Errorf("Sum(%x) = %08X, not %08X", b, sum, want)
		}
	})
}

func FuzzTurnedBytesAreTold(f *testing.F) {
	f.Add([]byte("123456789"), 3, uint32(0xEDB88320))
	f.Add([]byte("abcd"), 0, uint32(1))
	f.Fuzz(func(t *testing.T, body []byte, at int, mask uint32) {
		if len(body) < 4 || len(body) > api.MaxFrame || mask == 0 || at < 0 {
			return
		}
		expectTold(t, string(body), at%(len(body)-3), binary.BigEndian.AppendUint32(nil, mask))
	})
}

func FuzzAllOfAnyBytes(f *testing.F) {
	f.Add(slices.Concat(framed("ab"), framed(""), framed("c")))
	f.Add(headed(60001, 0, "ab"))
	f.Add([]byte{0, 0, 0})
	f.Fuzz(func(t *testing.T, b []byte) {
		bodies, used := frame.All(b)
		var again []byte
		for _, body := range bodies {
			made, e := frame.Wrap(body)
			if e != api.OK {
				t.Fatalf("a body that Wrap refuses: error %d", e)
			}
			again = append(again, made...)
		}
		if used != len(again) || !bytes.Equal(b[:used], again) {
			t.Errorf("All(%x): %d bytes, and its bodies' frames are %x", b, used, again)
		}
		if _, _, e := frame.Unwrap(b[used:]); e == api.OK {
			t.Errorf("All(%x) ends at %d, but a frame stands there", b, used)
		}
	})
}
