package config_test

import (
	"fmt"
	"math"
	"slices"
	"strings"
	"testing"

	"parish/api"
	"parish/config"
)

const longestKey = "zzzzzzzzzzzz"

// outside: numbers that are no group's, no replica's and no place's.
var outside = []int{-1, -2, -3, -5, -255, -256, -1 << 32, math.MinInt, math.MinInt + 1, math.MinInt32, 20, 21, 255, 256, 257, 1 << 32, 1<<32 + 1, math.MaxInt32, math.MaxInt - 1, math.MaxInt}

// texts: keys and other texts, strictly rising.
var texts = []string{"", "\x00", "\x00a", " ", "0", "00", "9", "A", "Z", "`", "a", "a\x00", "a ", "a0", "aa", "ab", "b", "f", "fz", "f\xFF", "g", "g\x00", "g0", "ga", "gg", "h", "o", "oz\xFF", "p", "p\x00", "pp", "u", "z", "zz", longestKey, longestKey + "\x00", longestKey + "z", "{", "~", "\x7F", "é", "\xFF", "\xFF\xFF"}

func conf(replicas []int, bounds ...string) api.Config {
	return api.Config{Replicas: replicas, Bounds: bounds}
}

// sizes: all lists of n of the numbers 1, 3 and 5.
func sizes(n int) [][]int {
	if n == 0 {
		return [][]int{nil}
	}
	var all [][]int
	for _, ahead := range sizes(n - 1) {
		for _, last := range []int{1, 3, 5} {
			all = append(all, append(slices.Clone(ahead), last))
		}
	}
	return all
}

// formed: configurations with all lists of replicas, and with bounds at the edges of what is a key.
func formed() []api.Config {
	var all []api.Config
	for _, s := range sizes(1) {
		all = append(all, conf(s), api.Config{Replicas: s, Bounds: []string{}})
	}
	for _, bounds := range [][]string{
		{"g"}, {"0"}, {"9"}, {"a"}, {"z"}, {longestKey}, {"000000000000"},
		{"g", "p"}, {"a", "aa"}, {"a", "b"}, {"9", "a"}, {"a0", "aa"}, {"z", longestKey}, {"0", "00"},
		{"g", "p", "u"}, {"a", "aa", "aaa"}, {"0", "a", "z"}, {"fz", "g", "ga"}, {"zz", "zzz", longestKey},
	} {
		for _, s := range sizes(len(bounds) + 1) {
			all = append(all, conf(s, bounds...))
		}
	}
	return all
}

// misformed: each is formed but for one thing.
func misformed() []api.Config {
	all := []api.Config{
		{},
		{Replicas: []int{}, Bounds: []string{}},
		conf(nil, "g"),
		conf(nil, "g", "p", "u"),
		conf([]int{1, 1, 1, 1, 1}, "a", "b", "c", "d"),
		conf([]int{3, 3, 3, 3, 3, 3}, "a", "b", "c", "d", "e"),
		conf([]int{1, 1, 1, 1, 1}, "a", "b", "c"),
		conf([]int{1}, "g"),
		conf([]int{1}, ""),
		conf([]int{1, 1}),
		conf([]int{1, 1}, "g", "p"),
		conf([]int{1, 1, 1}, "g"),
		conf([]int{1, 1, 1}),
		conf([]int{1, 1, 1}, "g", "p", "u"),
		conf([]int{1, 1, 1, 1}, "g", "p"),
		conf([]int{1, 1, 1, 1}, "g", "p", "u", "x"),
	}
	for _, n := range []int{0, 2, 4, 6, 7, -1, -3, -5, 257, 259, 1<<32 + 1, 1<<32 + 3, math.MinInt, math.MinInt + 1, math.MaxInt} {
		all = append(all, conf([]int{n}), conf([]int{n, 3}, "g"), conf([]int{3, n}, "g"), conf([]int{1, n, 5}, "g", "p"), conf([]int{1, 3, 5, n}, "g", "p", "u"))
	}
	for _, s := range []string{"", "A", "aB", "é", "a b", " a", "a ", "-", "_", "/", ":", "`", "{", "@", "a\x00", "\xFF", longestKey + "z", strings.Repeat("a", 300)} {
		all = append(all, conf([]int{1, 1}, s))
	}
	// These rise, and one of them is no key.
	for _, l := range [][]string{
		{"", "g"}, {"A", "g"}, {"g", "~"}, {"g", longestKey + "z"}, {"/", "g"},
		{"", "g", "p"}, {"g", "g ", "p"}, {"g", "p", "{"},
	} {
		all = append(all, conf([]int{1, 3, 5, 1}[:len(l)+1], l...))
	}
	// These are keys, and don't rise, or not strictly.
	for _, l := range [][]string{
		{"b", "b"}, {"b", "a"}, {"aa", "a"}, {"a", "9"}, {"z", "0"}, {longestKey, "z"},
		{"a", "a", "b"}, {"a", "b", "b"}, {"b", "a", "c"}, {"a", "c", "b"}, {"b", "c", "a"}, {"c", "b", "a"}, {"a", "b", "a"}, {"a", "a", "a"},
	} {
		all = append(all, conf([]int{1, 3, 5, 1}[:len(l)+1], l...))
	}
	return all
}

func name(c api.Config) string {
	return fmt.Sprintf("%v %q", c.Replicas, c.Bounds)
}

func clone(c api.Config) api.Config {
	return api.Config{Replicas: slices.Clone(c.Replicas), Bounds: slices.Clone(c.Bounds)}
}

// home answers a text's group, from the last bound down to the first one that isn't above it.
func home(c api.Config, key string) int {
	for i := len(c.Bounds); i > 0; i-- {
		if strings.Compare(key, c.Bounds[i-1]) >= 0 {
			return i
		}
	}
	return 0
}

// groups answers the texts' groups by a list that is sorted at its end.
func groups(c api.Config, keys []string) []int {
	var all []int
	for _, key := range keys {
		all = append(all, home(c, key))
	}
	slices.Sort(all)
	return slices.Compact(all)
}

// expectNothing asks that all calls answer that c isn't formed.
func expectNothing(t *testing.T, c api.Config) {
	t.Helper()
	if config.Formed(c) {
		t.Errorf("%s is formed", name(c))
	}
	for _, key := range texts {
		if g := config.Home(c, key); g != -1 {
			t.Errorf("%s: Home(%q) = %d", name(c), key, g)
		}
	}
	if l := config.Groups(c); len(l) != 0 {
		t.Errorf("%s: Groups() = %v", name(c), l)
	}
	if l := config.Groups(c, texts...); len(l) != 0 {
		t.Errorf("%s: Groups of all texts = %v", name(c), l)
	}
	if n := config.Total(c); n != 0 {
		t.Errorf("%s: Total = %d", name(c), n)
	}
	numbers := append([]int{0, 1, 2, 3, 4, 5, 6}, outside...)
	for _, a := range numbers {
		if g, n := config.At(c, a); g != -1 || n != -1 {
			t.Errorf("%s: At(%d) = %d, %d", name(c), a, g, n)
		}
		for _, b := range numbers {
			if p := config.Place(c, a, b); p != -1 {
				t.Errorf("%s: Place(%d, %d) = %d", name(c), a, b, p)
			}
		}
	}
}

// P7.1

func TestFormed(t *testing.T) {
	for _, c := range formed() {
		if !config.Formed(c) {
			t.Errorf("%s isn't formed", name(c))
		}
	}
}

func TestOfMisformedOnes(t *testing.T) {
	for _, c := range misformed() {
		expectNothing(t, c)
	}
}

func TestHome(t *testing.T) {
	for _, c := range formed() {
		for _, key := range texts {
			if g := config.Home(c, key); g != home(c, key) {
				t.Errorf("%s: Home(%q) = %d", name(c), key, g)
			}
		}
	}
}

func TestHomeOfWrittenKeys(t *testing.T) {
	three := conf([]int{3, 1, 5}, "g", "p")
	four := conf([]int{1, 1, 1, 1}, "a", "aa", "b")
	for _, x := range []struct {
		c    api.Config
		key  string
		want int
	}{
		{three, "", 0}, {three, "a", 0}, {three, "f", 0}, {three, "fzzzzzzzzzzz", 0}, {three, "9", 0},
		{three, "g", 1}, {three, "g0", 1}, {three, "h", 1}, {three, "ozzzzzzzzzzz", 1},
		{three, "p", 2}, {three, "p0", 2}, {three, "z", 2}, {three, longestKey, 2},
		// Texts that are no keys have groups, too.
		{three, "G", 0}, {three, "Z", 0}, {three, "\x00", 0}, {three, "f\xFF", 0}, {three, "g\x00", 1}, {three, "o\xFF", 1}, {three, "{", 2}, {three, "é", 2}, {three, "\xFF", 2}, {three, strings.Repeat("h", 5000), 1},
		{four, "9", 0}, {four, "a", 1}, {four, "a9", 1}, {four, "a9zzzzzzzzzz", 1}, {four, "aa", 2}, {four, "aaa", 2}, {four, "ab", 2}, {four, "azzzzzzzzzzz", 2}, {four, "b", 3},
		{conf([]int{5}), "", 0}, {conf([]int{5}), "a", 0}, {conf([]int{5}), "\xFF", 0},
	} {
		if g := config.Home(x.c, x.key); g != x.want {
			t.Errorf("%s: Home(%q) = %d, not %d", name(x.c), x.key, g, x.want)
		}
	}
}

func TestGroupsOfNoKeys(t *testing.T) {
	for _, c := range formed() {
		for _, l := range [][]int{config.Groups(c), config.Groups(c, nil...), config.Groups(c, []string{}...)} {
			if len(l) != 0 {
				t.Errorf("%s: %v", name(c), l)
			}
		}
	}
}

func TestGroups(t *testing.T) {
	for _, c := range formed() {
		for i, a := range texts {
			// One key alone, twice, with another one behind it and ahead of it, and all from it on, backwards too.
			b := texts[i*7%len(texts)]
			rest := slices.Clone(texts[i:])
			slices.Reverse(rest)
			for _, keys := range [][]string{{a}, {a, a}, {a, b}, {b, a}, {a, b, a, b}, texts[i:], texts[:i], rest} {
				if l := config.Groups(c, keys...); !slices.Equal(l, groups(c, keys)) {
					t.Errorf("%s: Groups(%q) = %v, not %v", name(c), keys, l, groups(c, keys))
				}
			}
		}
	}
}

func TestGroupsOfWrittenKeys(t *testing.T) {
	three := conf([]int{3, 1, 5}, "g", "p")
	four := conf([]int{1, 3, 1, 5}, "g", "p", "u")
	for _, x := range []struct {
		c    api.Config
		keys []string
		want []int
	}{
		{three, []string{"z", "a", "b"}, []int{0, 2}},
		{three, []string{"p", "g", "f"}, []int{0, 1, 2}},
		{three, []string{"h", "g", "o"}, []int{1}},
		{three, []string{""}, []int{0}},
		{three, []string{"Z", "\xFF"}, []int{0, 2}},
		{four, []string{"u", "p", "g", "a"}, []int{0, 1, 2, 3}},
		{four, []string{"z", "z", "h", "z", "h"}, []int{1, 3}},
		{four, []string{"z"}, []int{3}},
		{conf([]int{1}), []string{"z", "a"}, []int{0}},
	} {
		if l := config.Groups(x.c, x.keys...); !slices.Equal(l, x.want) {
			t.Errorf("%s: Groups(%q) = %v, not %v", name(x.c), x.keys, l, x.want)
		}
	}
}

func TestGroupsOfManyKeys(t *testing.T) {
	c := conf([]int{3, 1, 5, 1}, "g", "p", "u")
	keys := slices.Repeat([]string{"z", "a"}, 50000)
	if l := config.Groups(c, keys...); !slices.Equal(l, []int{0, 3}) {
		t.Error(l)
	}
	keys[99999] = "p"
	if l := config.Groups(c, keys...); !slices.Equal(l, []int{0, 2, 3}) {
		t.Error(l)
	}
}

func TestGroupsIsNewMemory(t *testing.T) {
	c := conf([]int{3, 1, 5}, "g", "p")
	first := config.Groups(c, "a", "z")
	second := config.Groups(c, "a", "z")
	for i := range first {
		first[i] = 77
	}
	if third := config.Groups(c, "a", "z"); !slices.Equal(second, []int{0, 2}) || !slices.Equal(third, []int{0, 2}) {
		t.Errorf("%v, %v", second, third)
	}
}

// TestArgumentsAreLeft hands in lists with spare room, keys that aren't sorted among them.
func TestArgumentsAreLeft(t *testing.T) {
	replicas, bounds, keys := []int{3, 1, 5, 99, 98}, []string{"g", "p", "spare", "room"}, []string{"z", "a", "z", "h", "spare", "room"}
	r, b, k := slices.Clone(replicas), slices.Clone(bounds), slices.Clone(keys)
	c := conf(replicas[:3], bounds[:2]...)
	config.Formed(c)
	config.Home(c, "h")
	config.Groups(c, keys[:4]...)
	config.Total(c)
	config.Place(c, 2, 4)
	config.At(c, 8)
	if !slices.Equal(replicas, r) || !slices.Equal(bounds, b) || !slices.Equal(keys, k) {
		t.Errorf("%v, %q, %q", replicas, bounds, keys)
	}
}

// TestNothingIsKept turns a configuration between the calls.
func TestNothingIsKept(t *testing.T) {
	c := conf([]int{3, 1}, "g")
	if config.Home(c, "h") != 1 || config.Total(c) != 4 || config.Place(c, 1, 0) != 3 {
		t.Error("ahead of it")
	}
	c.Replicas[0], c.Bounds[0] = 5, "p"
	if config.Home(c, "h") != 0 || config.Total(c) != 6 || config.Place(c, 1, 0) != 5 {
		t.Error("behind it")
	}
	c.Replicas[0] = 2
	expectNothing(t, c)
}

// P7.2

func TestTotal(t *testing.T) {
	for _, x := range []struct {
		c    api.Config
		want int
	}{
		{conf([]int{1}), 1}, {conf([]int{3}), 3}, {conf([]int{5}), 5},
		{conf([]int{3, 1}, "m"), 4}, {conf([]int{3, 1, 5}, "g", "p"), 9},
		{conf([]int{1, 1, 1, 1}, "a", "b", "c"), 4}, {conf([]int{5, 5, 5, 5}, "a", "b", "c"), 20},
	} {
		if n := config.Total(x.c); n != x.want {
			t.Errorf("%s: Total = %d, not %d", name(x.c), n, x.want)
		}
	}
}

// TestPlacesOneByOne counts the replicas, group by group: that count is each one's place.
func TestPlacesOneByOne(t *testing.T) {
	for _, c := range formed() {
		count := 0
		for g, n := range c.Replicas {
			for i := range n {
				if p := config.Place(c, g, i); p != count {
					t.Errorf("%s: Place(%d, %d) = %d, not %d", name(c), g, i, p, count)
				}
				if h, j := config.At(c, count); h != g || j != i {
					t.Errorf("%s: At(%d) = %d, %d, not %d, %d", name(c), count, h, j, g, i)
				}
				count++
			}
		}
		if n := config.Total(c); n != count {
			t.Errorf("%s: Total = %d, not %d", name(c), n, count)
		}
	}
}

func TestPlaceOfWrittenReplicas(t *testing.T) {
	c := conf([]int{3, 1, 5}, "g", "p")
	for _, x := range []struct{ group, node, want int }{
		{0, 0, 0}, {0, 2, 2}, {1, 0, 3}, {2, 0, 4}, {2, 4, 8},
		{0, 3, -1}, {0, 4, -1}, {1, 1, -1}, {1, 2, -1}, {2, 5, -1}, {3, 0, -1}, {4, 0, -1},
		{-1, 0, -1}, {0, -1, -1}, {1, -1, -1}, {2, -1, -1}, {-1, -1, -1}, {-1, 3, -1}, {3, -1, -1},
	} {
		if p := config.Place(c, x.group, x.node); p != x.want {
			t.Errorf("Place(%d, %d) = %d, not %d", x.group, x.node, p, x.want)
		}
	}
	if p := config.Place(conf([]int{3, 1}, "m"), 1, 0); p != 3 {
		t.Errorf("the chapter's: %d", p)
	}
}

func TestPlaceOfNoReplica(t *testing.T) {
	for _, c := range formed() {
		for g, n := range c.Replicas {
			for _, node := range append([]int{n, n + 1, n + 2}, outside...) {
				if p := config.Place(c, g, node); p != -1 {
					t.Errorf("%s: Place(%d, %d) = %d", name(c), g, node, p)
				}
			}
		}
		for _, g := range append([]int{len(c.Replicas), len(c.Replicas) + 1, 4, 5}, outside...) {
			for _, node := range append([]int{0, 1, 2, 3, 4}, outside...) {
				if p := config.Place(c, g, node); p != -1 {
					t.Errorf("%s: Place(%d, %d) = %d", name(c), g, node, p)
				}
			}
		}
	}
}

func TestAtOfWrittenPlaces(t *testing.T) {
	c := conf([]int{3, 1, 5}, "g", "p")
	for _, x := range []struct{ place, group, node int }{
		{0, 0, 0}, {1, 0, 1}, {2, 0, 2}, {3, 1, 0}, {4, 2, 0}, {8, 2, 4}, {9, -1, -1}, {-1, -1, -1},
	} {
		if g, n := config.At(c, x.place); g != x.group || n != x.node {
			t.Errorf("At(%d) = %d, %d", x.place, g, n)
		}
	}
}

func TestAtOfNoPlace(t *testing.T) {
	for _, c := range formed() {
		total := config.Total(c)
		for _, place := range append([]int{total, total + 1, total + 5}, outside...) {
			if g, n := config.At(c, place); g != -1 || n != -1 {
				t.Errorf("%s: At(%d) = %d, %d", name(c), place, g, n)
			}
		}
	}
}

// P7.3

func TestEachPlaceIsOneReplicas(t *testing.T) {
	for _, c := range formed() {
		owners := map[int][2]int{}
		for g := -1; g < 6; g++ {
			for n := -1; n < 7; n++ {
				p := config.Place(c, g, n)
				if p == -1 {
					continue
				}
				if other, ok := owners[p]; ok {
					t.Errorf("%s: the place %d is of %v and of %d, %d", name(c), p, other, g, n)
				}
				owners[p] = [2]int{g, n}
			}
		}
		if len(owners) != config.Total(c) {
			t.Errorf("%s: %d places, and Total %d", name(c), len(owners), config.Total(c))
		}
		for p := range config.Total(c) {
			g, n := config.At(c, p)
			if owner, ok := owners[p]; !ok || owner != [2]int{g, n} {
				t.Errorf("%s: the place %d is of %v, and At is %d, %d", name(c), p, owner, g, n)
			}
		}
	}
}

func TestGroupsOfRisingKeysDontFall(t *testing.T) {
	if !slices.IsSorted(texts) {
		t.Fatal("the texts don't rise")
	}
	for _, c := range formed() {
		last := 0
		for _, key := range texts {
			g := config.Home(c, key)
			if g < last || g >= len(c.Replicas) {
				t.Errorf("%s: Home(%q) = %d, behind %d", name(c), key, g, last)
			}
			last = g
		}
	}
}

func TestEachGroupHasItsBound(t *testing.T) {
	for _, c := range formed() {
		if g := config.Home(c, ""); g != 0 {
			t.Errorf("%s: the least text is of %d", name(c), g)
		}
		for i, bound := range c.Bounds {
			if g := config.Home(c, bound); g != i+1 {
				t.Errorf("%s: %q is of %d", name(c), bound, g)
			}
		}
	}
}

// split answers the words of a text, with one comma between two.
func split(s string) []string {
	if s == "" {
		return nil
	}
	return strings.Split(s, ",")
}

func isKey(s string) bool {
	return len(s) >= 1 && len(s) <= 12 && strings.Trim(s, "abcdefghijklmnopqrstuvwxyz0123456789") == ""
}

// isFormed answers whether c is formed, from the words of the chapter.
func isFormed(c api.Config) bool {
	ok := len(c.Replicas) >= 1 && len(c.Replicas) <= 4 && len(c.Bounds)+1 == len(c.Replicas)
	for _, n := range c.Replicas {
		ok = ok && slices.Contains([]int{1, 3, 5}, n)
	}
	for i, bound := range c.Bounds {
		ok = ok && isKey(bound) && (i == 0 || strings.Compare(c.Bounds[i-1], bound) < 0)
	}
	return ok
}

func FuzzConfigurations(f *testing.F) {
	f.Add("\x03\x01\x05", "g,p", "z,a,b", 1, 0)
	f.Add("\x03", "", "", 0, 2)
	f.Add("\x01\x01", "A", "a", 3, 3)
	f.Add("\x01\x01\x01", "b,b", "a", -1, 0)
	f.Add("\x05\x05\x05\x05", "a,aa,zzzzzzzzzzzz", "\xFF,a9", 3, 4)
	f.Fuzz(func(t *testing.T, counts, bounds, keys string, group, node int) {
		c := conf(nil, split(bounds)...)
		for _, n := range []byte(counts) {
			c.Replicas = append(c.Replicas, int(n))
		}
		before := clone(c)
		list := split(keys)
		if !isFormed(c) {
			expectNothing(t, c)
			return
		}
		if !config.Formed(c) {
			t.Errorf("%s isn't formed", name(c))
		}
		for _, key := range list {
			if g := config.Home(c, key); g != home(c, key) {
				t.Errorf("%s: Home(%q) = %d", name(c), key, g)
			}
		}
		if l := config.Groups(c, list...); !slices.Equal(l, groups(c, list)) {
			t.Errorf("%s: Groups(%q) = %v", name(c), list, l)
		}
		p := config.Place(c, group, node)
		there := group >= 0 && group < len(c.Replicas) && node >= 0 && node < c.Replicas[group]
		if g, n := config.At(c, p); there != (p != -1) || there && (g != group || n != node) || !there && (g != -1 || n != -1) {
			t.Errorf("%s: Place(%d, %d) = %d, and At of that %d, %d", name(c), group, node, p, g, n)
		}
		if !slices.Equal(c.Replicas, before.Replicas) || !slices.Equal(c.Bounds, before.Bounds) {
			t.Errorf("%s was %s", name(c), name(before))
		}
	})
}
