package table_test

import (
	"cmp"
	"maps"
	"math"
	"math/rand"
	"slices"
	"strings"
	"testing"

	"byway/api"
	"byway/route"
	"byway/table"
)

// What the tests hold the layer against: prefixes as texts of bits, tables as maps.

// bitsOf is a key's 128 bits as text.
func bitsOf(k api.Key) string {
	var b [128]byte
	for i := range b {
		b[i] = '0' + k[i/8]>>(7-i%8)&1
	}
	return string(b[:])
}

// ofBits is the prefix whose bits are those of s.
func ofBits(bits int, s string) api.Prefix {
	p := api.Prefix{Bits: bits, Len: len(s)}
	for i, c := range s {
		if c == '1' {
			p.Key[i/8] |= 0x80 >> (i % 8)
		}
	}
	return p
}

// mayBe tells whether a prefix may be.
func mayBe(p api.Prefix) bool {
	if p.Bits != 32 && p.Bits != 128 || p.Len < 0 || p.Len > p.Bits {
		return false
	}
	return !strings.Contains(bitsOf(p.Key)[p.Len:], "1")
}

// compare is the order of prefixes that may be.
func compare(p, q api.Prefix) int {
	return cmp.Or(cmp.Compare(p.Bits, q.Bits), cmp.Compare(bitsOf(p.Key), bitsOf(q.Key)), cmp.Compare(p.Len, q.Len))
}

// fits tells whether a prefix fits a key of so many bits.
func fits(p api.Prefix, k api.Key, bits int) bool {
	return p.Bits == bits && strings.HasPrefix(bitsOf(k), bitsOf(p.Key)[:p.Len])
}

// covers tells whether p covers q.
func covers(p, q api.Prefix) bool {
	return mayBe(p) && mayBe(q) && p.Len <= q.Len && fits(p, q.Key, q.Bits)
}

// isRight tells whether a table is: every route is held against every later one.
func isRight(t []api.Route) bool {
	for i, r := range t {
		if !mayBe(r.Prefix) {
			return false
		}
		for _, s := range t[i+1:] {
			if mayBe(s.Prefix) && compare(r.Prefix, s.Prefix) >= 0 {
				return false
			}
		}
	}
	return len(t) <= 256
}

// ofMap is the table of a map.
func ofMap(m map[api.Prefix]uint16) []api.Route {
	var t []api.Route
	for p, hop := range m {
		t = append(t, api.Route{Prefix: p, Hop: hop})
	}
	slices.SortFunc(t, func(r, s api.Route) int { return compare(r.Prefix, s.Prefix) })
	return t
}

// toMap is the map of a list: of each prefix the last route.
func toMap(l []api.Route) map[api.Prefix]uint16 {
	m := map[api.Prefix]uint16{}
	for _, r := range l {
		m[r.Prefix] = r.Hop
	}
	return m
}

// applied is a right table behind the changes, as a map goes through them.
func applied(t []api.Route, l []api.Change) ([]api.Route, api.Errno) {
	m := toMap(t)
	for _, c := range l {
		p := c.Route.Prefix
		_, there := m[p]
		switch {
		case !mayBe(p):
			return t, api.ErrArg
		case c.Gone && !there:
			return t, api.ErrNone
		case c.Gone:
			delete(m, p)
		case !there && len(m) == 256:
			return t, api.ErrFull
		default:
			m[p] = c.Route.Hop
		}
	}
	return ofMap(m), api.OK
}

// Inputs.

// lines are routes by their text.
func lines(t testing.TB, l ...string) []api.Route {
	t.Helper()
	var out []api.Route
	for _, s := range l {
		r, e := route.ReadLine(s)
		if e != api.OK {
			t.Fatalf("%q: %d", s, e)
		}
		out = append(out, r)
	}
	return out
}

// prefix of a text.
func prefix(t testing.TB, s string) api.Prefix {
	t.Helper()
	p, e := route.ReadPrefix(s)
	if e != api.OK {
		t.Fatalf("%q: %d", s, e)
	}
	return p
}

// put is a change that puts routes.
func put(l ...api.Route) []api.Change {
	var out []api.Change
	for _, r := range l {
		out = append(out, api.Change{Route: r})
	}
	return out
}

// gone are changes that take routes away; where they led does not count.
func gone(l ...api.Route) []api.Change {
	var out []api.Change
	for _, r := range l {
		out = append(out, api.Change{Route: api.Route{Prefix: r.Prefix, Hop: r.Hop + 1}, Gone: true})
	}
	return out
}

// mixed is a table of both kinds, with a prefix of no bits and a whole key of each.
func mixed(t testing.TB) []api.Route {
	return lines(t,
		"0.0.0.0/0 9",
		"10.0.0.0/8 1",
		"10.1.0.0/16 2",
		"10.1.2.0/24 3",
		"10.1.2.3/32 4",
		"10.2.0.0/16 5",
		"255.255.255.255/32 6",
		"00000000000000000000000000000000/0 10",
		"0a000000000000000000000000000000/8 11",
		"0a010203000000000000000000000000/32 12",
		"0a010203000000000000000000000000/128 13",
		"20010db8000000000000000000000000/32 14",
		"ffffffffffffffffffffffffffffffff/128 15",
	)
}

// full is a right table of n routes.
func full(n int) []api.Route {
	var t []api.Route
	for i := range n {
		t = append(t, api.Route{Prefix: api.Prefix{Bits: api.Short, Len: 24, Key: api.Key{1, byte(i >> 8), byte(i)}}, Hop: uint16(i)})
	}
	return t
}

// wrong are prefixes that may not be.
func wrong() []api.Prefix {
	return []api.Prefix{
		{},
		{Bits: 31, Len: 8, Key: api.Key{10}},
		{Bits: 33, Len: 8, Key: api.Key{10}},
		{Bits: 64, Len: 8, Key: api.Key{10}},
		{Bits: -api.Short},
		{Bits: math.MaxInt, Len: math.MaxInt},
		{Bits: api.Short, Len: -1},
		{Bits: api.Short, Len: 33},
		{Bits: api.Short, Len: math.MaxInt},
		{Bits: api.Wide, Len: -1},
		{Bits: api.Wide, Len: 129},
		{Bits: api.Wide, Len: math.MinInt},
		{Bits: api.Short, Len: 0, Key: api.Key{0x80}},
		{Bits: api.Short, Len: 8, Key: api.Key{10, 1}},
		{Bits: api.Short, Len: 32, Key: api.Key{10, 1, 2, 3, 4}},
		{Bits: api.Short, Len: 32, Key: api.Key{15: 1}},
		{Bits: api.Wide, Len: 127, Key: api.Key{15: 1}},
	}
}

// noKeys are keys and bits of which there is no such key.
func noKeys() []api.Prefix {
	return []api.Prefix{
		{Bits: 0}, {Bits: 1}, {Bits: 31}, {Bits: 33}, {Bits: 64}, {Bits: 127}, {Bits: 129}, {Bits: -1}, {Bits: -api.Short}, {Bits: math.MaxInt}, {Bits: math.MinInt},
		{Bits: 24, Key: api.Key{10, 1, 2}},
		{Bits: api.Short, Key: api.Key{10, 1, 2, 3, 0x80}},
		{Bits: api.Short, Key: api.Key{10, 1, 2, 3, 1}},
		{Bits: api.Short, Key: api.Key{15: 1}},
	}
}

// wrongTables are lists that are no right table, each for one cause.
func wrongTables(t testing.TB) map[string][]api.Route {
	l := mixed(t)
	twice := slices.Insert(slices.Clone(l), 3, api.Route{Prefix: l[3].Prefix, Hop: l[3].Hop + 1})
	same := slices.Insert(slices.Clone(l), 3, l[3])
	swapped := slices.Clone(l)
	swapped[11], swapped[12] = swapped[12], swapped[11]
	longFirst := slices.Clone(l)
	longFirst[0], longFirst[1] = longFirst[1], longFirst[0]
	wideFirst := slices.Concat(l[7:], l[:7])
	mayNot := slices.Concat(l, []api.Route{{Prefix: api.Prefix{Bits: api.Wide, Len: 129, Key: l[12].Prefix.Key}}})
	bitBehind := slices.Clone(l)
	bitBehind[1].Prefix.Key[1] = 0x80
	return map[string][]api.Route{
		"a prefix twice":         twice,
		"a route twice":          same,
		"two swapped at the end": swapped,
		"two swapped ahead":      longFirst,
		"wide ahead of short":    wideFirst,
		"backward":               reversed(l),
		"one that may not be":    mayNot,
		"a bit behind its end":   bitBehind,
		"a zero route alone":     {{}},
		"257 routes":             full(257),
		"1000 routes":            full(1000),
	}
}

// reversed is a list backward.
func reversed(l []api.Route) []api.Route {
	l = slices.Clone(l)
	slices.Reverse(l)
	return l
}

// few are prefixes of both kinds that lie near to one another, in order.
func few() []api.Prefix {
	return []api.Prefix{
		ofBits(api.Short, ""),
		ofBits(api.Short, "0"),
		ofBits(api.Short, "01"),
		ofBits(api.Short, "1"),
		ofBits(api.Short, strings.Repeat("1", 32)),
		ofBits(api.Wide, ""),
		ofBits(api.Wide, "01"),
		ofBits(api.Wide, strings.Repeat("1", 128)),
	}
}

// subsets are all tables of some prefixes that stand in order.
func subsets(l []api.Prefix) [][]api.Route {
	var out [][]api.Route
	for set := range 1 << len(l) {
		var t []api.Route
		for i, p := range l {
			if set>>i&1 == 1 {
				t = append(t, api.Route{Prefix: p, Hop: uint16(100 + i)})
			}
		}
		out = append(out, t)
	}
	return out
}

// randomPrefix is one of few values, so that many cover one another and are told twice.
func randomPrefix(r *rand.Rand) api.Prefix {
	bits := api.Short
	if r.Intn(2) == 0 {
		bits = api.Wide
	}
	n := r.Intn(7)
	switch r.Intn(8) {
	case 0:
		n = bits
	case 1:
		n = r.Intn(bits + 1)
	}
	var b strings.Builder
	for i := range n {
		digit := "0"
		if i < 7 || i == n-1 {
			digit = string('0' + rune(r.Intn(2)))
		}
		b.WriteString(digit)
	}
	return ofBits(bits, b.String())
}

// randomRoutes are n of them, in any order.
func randomRoutes(r *rand.Rand, n int) []api.Route {
	var l []api.Route
	for range n {
		l = append(l, api.Route{Prefix: randomPrefix(r), Hop: uint16(r.Intn(1 << 16))})
	}
	return l
}

// randomTable is a right one of about n routes.
func randomTable(r *rand.Rand, n int) []api.Route {
	return ofMap(toMap(randomRoutes(r, n)))
}

// randomChanges are n of them; many take away what is there, and some what isn't, or may not be.
func randomChanges(r *rand.Rand, t []api.Route, n int) []api.Change {
	var l []api.Change
	for range n {
		c := api.Change{Route: api.Route{Prefix: randomPrefix(r), Hop: uint16(r.Intn(1 << 16))}}
		switch x := r.Intn(60); {
		case x < 15 && len(t) > 0:
			c.Route.Prefix, c.Gone = t[r.Intn(len(t))].Prefix, true
		case x < 30 && len(l) > 0:
			c.Route.Prefix, c.Gone = l[r.Intn(len(l))].Route.Prefix, r.Intn(2) == 0
		case x == 30:
			c.Gone = true
		case x == 31:
			c.Route.Prefix = wrong()[r.Intn(len(wrong()))]
		}
		l = append(l, c)
	}
	return l
}

// What is handed in, and what is answered.

// guarded is a list with spare room; what is answered beside it tells whether the list, or the room, was changed.
func guarded[T comparable](l []T, filler T) ([]T, func() bool) {
	whole := slices.Concat(l, slices.Repeat([]T{filler}, 5))
	before := slices.Clone(whole)
	return whole[:len(l)], func() bool { return !slices.Equal(whole, before) }
}

var fillRoute = api.Route{Prefix: api.Prefix{Bits: 7, Len: 7, Key: api.Key{7}}, Hop: 7}
var fillChange = api.Change{Route: fillRoute, Gone: true}

// guardedTable is a table with spare room.
func guardedTable(t []api.Route) ([]api.Route, func() bool) {
	return guarded(t, fillRoute)
}

// spoil all of an answer's memory, its spare room too.
func spoil(l []api.Route) {
	l = l[:cap(l)]
	for i := range l {
		l[i] = api.Route{Prefix: api.Prefix{Bits: 99, Len: 99, Key: api.Key{99}}, Hop: 99}
	}
}

// P3.1

func TestRight(t *testing.T) {
	for _, c := range []struct {
		what string
		t    []api.Route
	}{
		{"no table", nil},
		{"no route", []api.Route{}},
		{"one", mixed(t)[:1]},
		{"both kinds", mixed(t)},
		{"wide ones alone", mixed(t)[7:]},
		{"of no bits, both", []api.Route{{Prefix: api.Prefix{Bits: api.Short}}, {Prefix: api.Prefix{Bits: api.Wide}}}},
		{"one key, longer and longer", lines(t, "10.0.0.0/8 1", "10.0.0.0/9 1", "10.0.0.0/32 1")},
		{"hops that fall", lines(t, "10.0.0.0/8 65535", "11.0.0.0/8 0")},
		{"255 routes", full(255)},
		{"256 routes", full(256)},
	} {
		if !table.Right(c.t) {
			t.Errorf("%s is not right", c.what)
		}
	}
	for what, l := range wrongTables(t) {
		if table.Right(l) {
			t.Errorf("%s is right", what)
		}
	}
}

func TestRightWrongAnywhere(t *testing.T) {
	for _, p := range wrong() {
		if table.Right([]api.Route{{Prefix: p}}) {
			t.Errorf("%v alone is right", p)
		}
		for at := range len(mixed(t)) + 1 {
			l := slices.Insert(mixed(t), at, api.Route{Prefix: p, Hop: 1})
			if table.Right(l) {
				t.Errorf("%v at %d is right", p, at)
			}
		}
	}
	for at := range 255 {
		l := full(256)
		l[at], l[at+1] = l[at+1], l[at]
		if table.Right(l) {
			t.Errorf("swapped at %d is right", at)
		}
		l = full(256)
		l[at+1].Prefix = l[at].Prefix
		if table.Right(l) {
			t.Errorf("twice at %d is right", at)
		}
	}
}

// Every list of up to four routes of some prefixes, some of which may not be.
func TestRightAll(t *testing.T) {
	some := append(few(), api.Prefix{}, api.Prefix{Bits: api.Short, Len: 1, Key: api.Key{0x40}}, api.Prefix{Bits: api.Wide, Len: -1})
	var check func(l []api.Route)
	check = func(l []api.Route) {
		if got, want := table.Right(l), isRight(l); got != want {
			t.Errorf("%v: %v", l, got)
		}
		if len(l) == 4 {
			return
		}
		for _, p := range some {
			check(append(slices.Clone(l), api.Route{Prefix: p}))
		}
	}
	check(nil)
}

func TestGet(t *testing.T) {
	for _, l := range [][]api.Route{nil, {}, mixed(t)[:1], mixed(t), full(256)} {
		for i, r := range l {
			if hop, e := table.Get(l, r.Prefix); hop != r.Hop || e != api.OK {
				t.Errorf("of %d routes, %d: %d, %d", len(l), i, hop, e)
			}
		}
		for _, s := range []string{"10.0.0.0/7", "10.0.0.0/9", "10.1.2.2/31", "10.1.2.2/32", "0.0.0.0/32", "255.255.255.254/32", "0a010000000000000000000000000000/16", "00000000000000000000000000000000/1", "ffffffffffffffffffffffffffffffff/128"} {
			p := prefix(t, s)
			if slices.ContainsFunc(l, func(r api.Route) bool { return r.Prefix == p }) {
				continue
			}
			if hop, e := table.Get(l, p); hop != 0 || e != api.ErrNone {
				t.Errorf("of %d routes, %q: %d, %d", len(l), s, hop, e)
			}
		}
	}
}

// The one beside another: as many bits, or one key, and yet not there.
func TestGetNear(t *testing.T) {
	l := lines(t, "10.0.0.0/8 1", "0a000000000000000000000000000000/8 2")
	for n := 7; n <= 32; n++ {
		p := api.Prefix{Bits: api.Short, Len: n, Key: api.Key{10}}
		want, none := uint16(1), api.OK
		if n != 8 {
			want, none = 0, api.ErrNone
		}
		if hop, e := table.Get(l, p); hop != want || e != none {
			t.Errorf("%v: %d, %d", p, hop, e)
		}
	}
	if hop, e := table.Get(l, prefix(t, "0a000000000000000000000000000000/8")); hop != 2 || e != api.OK {
		t.Errorf("the wide one: %d, %d", hop, e)
	}
	for _, one := range []int{0, 1} {
		if hop, e := table.Get(l[one:one+1], l[1-one].Prefix); hop != 0 || e != api.ErrNone {
			t.Errorf("of the other kind: %d, %d", hop, e)
		}
	}
}

func TestGetWrong(t *testing.T) {
	for _, p := range wrong() {
		for _, l := range [][]api.Route{nil, mixed(t), full(256)} {
			if hop, e := table.Get(l, p); hop != 0 || e != api.ErrArg {
				t.Errorf("%v: %d, %d", p, hop, e)
			}
		}
	}
	for what, l := range wrongTables(t) {
		for _, p := range append(wrong(), prefix(t, "10.1.0.0/16"), prefix(t, "77.0.0.0/8"), l[0].Prefix, l[len(l)-1].Prefix) {
			if hop, e := table.Get(l, p); hop != 0 || e != api.ErrArg {
				t.Errorf("%s, %v: %d, %d", what, p, hop, e)
			}
		}
	}
}

func TestBest(t *testing.T) {
	l := mixed(t)
	for _, c := range []struct {
		key  string
		want string
	}{
		{"10.1.2.3", "10.1.2.3/32 4"},
		{"10.1.2.4", "10.1.2.0/24 3"},
		{"10.1.3.3", "10.1.0.0/16 2"},
		{"10.2.3.3", "10.2.0.0/16 5"},
		{"10.3.2.3", "10.0.0.0/8 1"},
		{"10.255.255.255", "10.0.0.0/8 1"},
		{"11.0.0.0", "0.0.0.0/0 9"},
		{"0.0.0.0", "0.0.0.0/0 9"},
		{"255.255.255.255", "255.255.255.255/32 6"},
		{"255.255.255.254", "0.0.0.0/0 9"},
		{"32.1.13.184", "0.0.0.0/0 9"},
		{"0a010203000000000000000000000000", "0a010203000000000000000000000000/128 13"},
		{"0a010203000000000000000000000001", "0a010203000000000000000000000000/32 12"},
		{"0a010204000000000000000000000000", "0a000000000000000000000000000000/8 11"},
		{"20010db8000000000000000000000001", "20010db8000000000000000000000000/32 14"},
		{"20010db7ffffffffffffffffffffffff", "00000000000000000000000000000000/0 10"},
		{"ffffffffffffffffffffffffffffffff", "ffffffffffffffffffffffffffffffff/128 15"},
		{"fffffffffffffffffffffffffffffffe", "00000000000000000000000000000000/0 10"},
	} {
		k, bits, _ := route.ReadKey(c.key)
		if r, e := table.Best(l, k, bits); r != lines(t, c.want)[0] || e != api.OK {
			t.Errorf("%s: %v, %d", c.key, r, e)
		}
	}
}

// The chapter's example.
func TestBestExample(t *testing.T) {
	l := lines(t, "10.0.0.0/8 1", "10.1.0.0/16 2")
	if r, e := table.Best(l, api.Key{10, 1, 2, 3}, api.Short); r != l[1] || e != api.OK {
		t.Errorf("%v, %d", r, e)
	}
}

func TestBestNone(t *testing.T) {
	for _, c := range []struct {
		t    []api.Route
		k    api.Key
		bits int
	}{
		{nil, api.Key{}, api.Short},
		{[]api.Route{}, api.Key{10, 1, 2, 3}, api.Wide},
		{lines(t, "10.0.0.0/8 1"), api.Key{11}, api.Short},
		{lines(t, "10.0.0.0/8 1"), api.Key{10}, api.Wide},
		{lines(t, "0.0.0.0/0 1"), api.Key{}, api.Wide},
		{lines(t, "00000000000000000000000000000000/0 1"), api.Key{}, api.Short},
		{lines(t, "0a000000000000000000000000000000/8 1"), api.Key{10}, api.Short},
		{lines(t, "10.1.2.3/32 1"), api.Key{10, 1, 2, 2}, api.Short},
		{lines(t, "ffffffffffffffffffffffffffffffff/128 1"), api.Key{0xFF, 0xFF}, api.Wide},
	} {
		if r, e := table.Best(c.t, c.k, c.bits); r != (api.Route{}) || e != api.ErrNone {
			t.Errorf("%v, %v: %v, %d", c.t, c.k, r, e)
		}
	}
}

func TestBestWrong(t *testing.T) {
	for _, k := range noKeys() {
		for _, l := range [][]api.Route{nil, mixed(t), full(256)} {
			if r, e := table.Best(l, k.Key, k.Bits); r != (api.Route{}) || e != api.ErrArg {
				t.Errorf("%v of %d: %v, %d", k.Key, k.Bits, r, e)
			}
		}
	}
	for what, l := range wrongTables(t) {
		for _, k := range append(noKeys(), prefix(t, "10.1.2.3/32"), prefix(t, "0a010203000000000000000000000000/128")) {
			if r, e := table.Best(l, k.Key, k.Bits); r != (api.Route{}) || e != api.ErrArg {
				t.Errorf("%s, %v: %v, %d", what, k, r, e)
			}
		}
	}
}

// bestOf is the longest route of those that fit.
func bestOf(t []api.Route, k api.Key, bits int) (api.Route, api.Errno) {
	best, e := api.Route{}, api.ErrNone
	for _, r := range t {
		if fits(r.Prefix, k, bits) && (e != api.OK || r.Prefix.Len > best.Prefix.Len) {
			best, e = r, api.OK
		}
	}
	return best, e
}

func TestBestAll(t *testing.T) {
	var ks []api.Prefix
	for _, s := range []string{"", "0", "00", "01", "011", "10", "1", strings.Repeat("1", 31), strings.Repeat("1", 32)} {
		ks = append(ks, ofBits(api.Short, s), ofBits(api.Wide, s))
	}
	ks = append(ks, ofBits(api.Wide, strings.Repeat("1", 128)), ofBits(api.Wide, strings.Repeat("1", 127)))
	for _, l := range subsets(few()) {
		for _, k := range ks {
			r, e := table.Best(l, k.Key, k.Bits)
			if want, none := bestOf(l, k.Key, k.Bits); r != want || e != none {
				t.Errorf("%v, %v: %v, %d", l, k, r, e)
			}
		}
	}
}

// P3.2

func TestApply(t *testing.T) {
	l := mixed(t)
	a, b := lines(t, "10.1.0.0/16 7")[0], lines(t, "9.0.0.0/8 8")[0]
	c := lines(t, "10.1.0.0/16 0")[0]
	for _, x := range []struct {
		what string
		t    []api.Route
		l    []api.Change
		want []api.Route
	}{
		{"nothing", l, nil, l},
		{"nothing to nothing", nil, []api.Change{}, nil},
		{"the first one", nil, put(a), []api.Route{a}},
		{"one ahead", []api.Route{a}, put(b), []api.Route{b, a}},
		{"one behind", []api.Route{b}, put(a), []api.Route{b, a}},
		{"one between", slices.Concat(l[:1], l[2:]), put(l[1]), l},
		{"one in another's place", []api.Route{b, l[2]}, put(a), []api.Route{b, a}},
		{"the same one", l, put(l[4]), l},
		{"a hop of nought", []api.Route{a}, put(c), []api.Route{c}},
		{"one gone", l, gone(l[2]), slices.Concat(l[:2], l[3:])},
		{"the first gone", l, gone(l[0]), l[1:]},
		{"the last gone", l, gone(l[12]), l[:12]},
		{"all gone", l, gone(l...), nil},
		{"all gone from the end", l, gone(reversed(l)...), nil},
		{"all put, from the end", nil, put(reversed(l)...), l},
		{"put twice", nil, put(a, l[2]), []api.Route{l[2]}},
		{"put and gone", []api.Route{b}, slices.Concat(put(a), gone(a)), []api.Route{b}},
		{"gone and put", []api.Route{l[2]}, slices.Concat(gone(a), put(a)), []api.Route{a}},
		{"put, gone, put", nil, slices.Concat(put(a), gone(a), put(c)), []api.Route{c}},
		{"gone, put, gone", []api.Route{a}, slices.Concat(gone(a), put(a), gone(a)), nil},
		{"one key, of both kinds", lines(t, "10.0.0.0/8 1"), put(lines(t, "0a000000000000000000000000000000/8 2")...), lines(t, "10.0.0.0/8 1", "0a000000000000000000000000000000/8 2")},
		{"one of no bits", nil, put(l[7], l[0]), []api.Route{l[0], l[7]}},
	} {
		if got, e := table.Apply(x.t, x.l); !slices.Equal(got, x.want) || e != api.OK {
			t.Errorf("%s: %v, %d", x.what, got, e)
		}
	}
}

func TestApplyNone(t *testing.T) {
	l := mixed(t)
	b := lines(t, "9.0.0.0/8 8")[0]
	for _, x := range []struct {
		what string
		t    []api.Route
		l    []api.Change
	}{
		{"of no table", nil, gone(b)},
		{"one that never was", l, gone(b)},
		{"twice", l, gone(l[2], l[2])},
		{"behind others", l, slices.Concat(put(b), gone(l[2], lines(t, "10.1.0.0/17 2")[0]))},
		{"put, gone, gone", l, slices.Concat(put(b), gone(b, b))},
		{"gone ahead of put", l, slices.Concat(gone(b), put(b))},
		{"shorter", l, gone(lines(t, "10.0.0.0/7 1")[0])},
		{"longer", l, gone(lines(t, "10.0.0.0/9 1")[0])},
		{"of the other kind", l[:7], gone(l[7])},
		{"of a full table", full(256), gone(b)},
	} {
		if got, e := table.Apply(x.t, x.l); !slices.Equal(got, x.t) || e != api.ErrNone {
			t.Errorf("%s: %v, %d", x.what, got, e)
		}
	}
}

func TestApplyWrong(t *testing.T) {
	l := mixed(t)
	b := lines(t, "9.0.0.0/8 8")[0]
	for _, p := range wrong() {
		r := api.Route{Prefix: p, Hop: 3}
		for _, x := range []struct {
			t []api.Route
			l []api.Change
		}{
			{nil, put(r)},
			{nil, gone(r)},
			{l, put(r)},
			{l, gone(r)},
			{l, slices.Concat(put(b), gone(l[2]), put(r))},
			{l, put(b, r, l[2])},
			{full(256), put(r)},
			{full(256), gone(r)},
		} {
			if got, e := table.Apply(x.t, x.l); !slices.Equal(got, x.t) || e != api.ErrArg {
				t.Errorf("%v: %v, %d", x.l, got, e)
			}
		}
	}
}

// A table that isn't right is answered as it is, ahead of all else.
func TestApplyWrongTable(t *testing.T) {
	b := lines(t, "9.0.0.0/8 8")[0]
	for what, l := range wrongTables(t) {
		for _, c := range [][]api.Change{nil, put(b), gone(b), gone(l[0]), put(api.Route{})} {
			in, changed := guardedTable(l)
			got, e := table.Apply(in, c)
			if !slices.Equal(got, l) || e != api.ErrArg {
				t.Errorf("%s, %v: %v, %d", what, c, got, e)
			}
			spoil(got)
			if changed() {
				t.Errorf("%s, %v: changed", what, c)
			}
		}
	}
}

func TestApplyFull(t *testing.T) {
	b := lines(t, "9.0.0.0/8 8")[0]
	w := lines(t, "00000000000000000000000000000000/0 10")[0]
	other := api.Route{Prefix: full(256)[255].Prefix, Hop: 7}
	for _, x := range []struct {
		what string
		t    []api.Route
		l    []api.Change
		e    api.Errno
	}{
		{"the 256th", full(255), put(b), api.OK},
		{"the 257th", full(256), put(b), api.ErrFull},
		{"the 257th, ahead of all", full(256), put(lines(t, "0.0.0.0/0 9")...), api.ErrFull},
		{"the 257th, of the other kind", full(256), put(w), api.ErrFull},
		{"the 256th and the 257th", full(255), put(b, w), api.ErrFull},
		{"one in another's place", full(256), put(other), api.OK},
		{"at some time", full(256), slices.Concat(put(b), gone(other)), api.ErrFull},
		{"at some time, itself gone", full(256), slices.Concat(put(b), gone(b)), api.ErrFull},
		{"never", full(256), slices.Concat(gone(other), put(b)), api.OK},
		{"never, then once", full(256), slices.Concat(gone(other), put(b, w)), api.ErrFull},
		{"of nothing, 256", nil, put(full(256)...), api.OK},
		{"of nothing, 257", nil, put(full(257)...), api.ErrFull},
		{"many that come and go", full(255), slices.Repeat(slices.Concat(put(b), gone(b)), 300), api.OK},
	} {
		got, e := table.Apply(x.t, x.l)
		want, none := applied(x.t, x.l)
		if e != x.e || none != x.e || !slices.Equal(got, want) {
			t.Errorf("%s: %d", x.what, e)
		}
	}
}

// The first change that can't be made tells.
func TestApplyFirst(t *testing.T) {
	l := full(256)
	mayNot, isNot, more := put(api.Route{}), gone(lines(t, "9.0.0.0/8 8")...), put(lines(t, "9.0.0.0/8 8")...)
	for _, x := range []struct {
		l []api.Change
		e api.Errno
	}{
		{slices.Concat(mayNot, isNot, more), api.ErrArg},
		{slices.Concat(mayNot, more, isNot), api.ErrArg},
		{slices.Concat(isNot, mayNot, more), api.ErrNone},
		{slices.Concat(isNot, more, mayNot), api.ErrNone},
		{slices.Concat(more, mayNot, isNot), api.ErrFull},
		{slices.Concat(more, isNot, mayNot), api.ErrFull},
	} {
		for _, ahead := range [][]api.Change{nil, put(l[9]), slices.Concat(gone(l[9]), put(l[9]))} {
			if got, e := table.Apply(l, slices.Concat(ahead, x.l)); e != x.e || !slices.Equal(got, l) {
				t.Errorf("%v: %d", x.l, e)
			}
		}
	}
}

func TestApplyRandom(t *testing.T) {
	r := rand.New(rand.NewSource(3))
	seen := map[api.Errno]int{}
	for range 3000 {
		l := randomTable(r, r.Intn(40))
		changes := randomChanges(r, l, r.Intn(20))
		got, e := table.Apply(l, changes)
		want, none := applied(l, changes)
		if e != none || !slices.Equal(got, want) {
			t.Fatalf("%v, %v: %v, %d", l, changes, got, e)
		}
		seen[e]++
	}
	for _, e := range []api.Errno{api.OK, api.ErrArg, api.ErrNone} {
		if seen[e] < 100 {
			t.Errorf("%d came %d times", e, seen[e])
		}
	}
}

// P3.3

func TestUnder(t *testing.T) {
	l := mixed(t)
	for _, c := range []struct {
		p    string
		want []api.Route
	}{
		{"0.0.0.0/0", l[:7]},
		{"10.0.0.0/7", l[1:6]},
		{"10.0.0.0/8", l[1:6]},
		{"10.0.0.0/15", l[2:5]},
		{"10.0.0.0/14", l[2:6]},
		{"10.1.0.0/16", l[2:5]},
		{"10.1.2.3/32", l[4:5]},
		{"10.1.2.2/31", l[4:5]},
		{"10.1.2.2/32", nil},
		{"11.0.0.0/8", nil},
		{"255.255.255.255/32", l[6:7]},
		{"00000000000000000000000000000000/0", l[7:]},
		{"0a000000000000000000000000000000/8", l[8:11]},
		{"0a010203000000000000000000000000/32", l[9:11]},
		{"0a010203000000000000000000000000/33", l[10:11]},
		{"20010db8000000000000000000000000/33", nil},
		{"80000000000000000000000000000000/1", l[12:]},
	} {
		if got := table.Under(l, prefix(t, c.p)); !slices.Equal(got, c.want) {
			t.Errorf("%s: %v", c.p, got)
		}
	}
	if got := table.Under(full(256), ofBits(api.Short, "")); !slices.Equal(got, full(256)) {
		t.Errorf("of 256: %d", len(got))
	}
	if got := table.Under(nil, ofBits(api.Short, "")); len(got) != 0 {
		t.Errorf("of none: %v", got)
	}
}

func TestUnderAll(t *testing.T) {
	for _, l := range subsets(few()) {
		for _, p := range append(few(), ofBits(api.Short, "00"), ofBits(api.Wide, "0"), ofBits(api.Wide, "011"), ofBits(api.Short, strings.Repeat("1", 31))) {
			var want []api.Route
			for _, r := range l {
				if covers(p, r.Prefix) {
					want = append(want, r)
				}
			}
			if got := table.Under(l, p); !slices.Equal(got, want) {
				t.Errorf("%v, %v: %v", l, p, got)
			}
		}
	}
}

func TestUnderWrong(t *testing.T) {
	for _, p := range wrong() {
		for _, l := range [][]api.Route{nil, mixed(t), full(256)} {
			if got := table.Under(l, p); len(got) != 0 {
				t.Errorf("%v: %v", p, got)
			}
		}
	}
	for what, l := range wrongTables(t) {
		for _, s := range []string{"0.0.0.0/0", "10.0.0.0/8", "00000000000000000000000000000000/0"} {
			if got := table.Under(l, prefix(t, s)); len(got) != 0 {
				t.Errorf("%s, %s: %v", what, s, got)
			}
		}
	}
}

func TestSort(t *testing.T) {
	l := mixed(t)
	for _, c := range []struct {
		what     string
		in, want []api.Route
	}{
		{"nothing", nil, nil},
		{"an empty list", []api.Route{}, nil},
		{"one", l[:1], l[:1]},
		{"one in order", l, l},
		{"one backward", reversed(l), l},
		{"one that may not be", []api.Route{{}}, nil},
		{"twice, one hop", []api.Route{l[1], l[1]}, l[1:2]},
		{"the last one counts", lines(t, "10.0.0.0/8 3", "10.0.0.0/8 1", "10.0.0.0/8 2"), lines(t, "10.0.0.0/8 2")},
		{"the last one counts, apart", lines(t, "10.0.0.0/8 9", "11.0.0.0/8 2", "9.0.0.0/8 3", "10.0.0.0/8 0"), lines(t, "9.0.0.0/8 3", "10.0.0.0/8 0", "11.0.0.0/8 2")},
		{"of one key the shorter first", lines(t, "10.0.0.0/9 2", "10.0.0.0/32 3", "10.0.0.0/8 1"), lines(t, "10.0.0.0/8 1", "10.0.0.0/9 2", "10.0.0.0/32 3")},
		{"short ones first", slices.Concat(l[7:], l[:7]), l},
		{"twice over", slices.Concat(l, l, reversed(l)), l},
	} {
		if got := table.Sort(c.in); !slices.Equal(got, c.want) {
			t.Errorf("%s: %v", c.what, got)
		}
	}
	for _, p := range wrong() {
		for at := range len(l) + 1 {
			if got := table.Sort(slices.Insert(reversed(l), at, api.Route{Prefix: p, Hop: 5})); !slices.Equal(got, l) {
				t.Errorf("%v at %d: %v", p, at, got)
			}
		}
	}
}

// Any list: one of more routes than a table has is sorted whole.
func TestSortLong(t *testing.T) {
	for _, n := range []int{256, 257, 5000} {
		l := full(n)
		if got := table.Sort(reversed(l)); !slices.Equal(got, l) {
			t.Errorf("of %d: %d", n, len(got))
		}
		if got := table.Sort(slices.Concat(l, l)); !slices.Equal(got, l) {
			t.Errorf("of %d twice: %d", n, len(got))
		}
	}
}

func TestSortRandom(t *testing.T) {
	r := rand.New(rand.NewSource(4))
	for range 1000 {
		l := randomRoutes(r, r.Intn(200))
		for range r.Intn(4) {
			l = slices.Insert(l, r.Intn(len(l)+1), api.Route{Prefix: wrong()[r.Intn(len(wrong()))], Hop: uint16(r.Intn(9))})
		}
		m := toMap(l)
		maps.DeleteFunc(m, func(p api.Prefix, _ uint16) bool { return !mayBe(p) })
		if got, want := table.Sort(l), ofMap(m); !slices.Equal(got, want) {
			t.Fatalf("%v: %v", l, got)
		}
	}
}

// P3.4

// What changes leave is right, and of it who fits best covers no other one that fits.
func TestStaysRight(t *testing.T) {
	r := rand.New(rand.NewSource(5))
	var l []api.Route
	for range 600 {
		changes := randomChanges(r, l, 1+r.Intn(12))
		next, _ := table.Apply(l, changes)
		if !table.Right(next) || !isRight(next) {
			t.Fatalf("%v, %v: %v", l, changes, next)
		}
		l = next
		k := randomPrefix(r)
		if !bestIsNarrow(l, k.Key, k.Bits) {
			t.Fatalf("%v, %v", l, k)
		}
		if r.Intn(40) == 0 {
			l = nil
		}
	}
}

// bestIsNarrow tells that what fits a key best is there, fits, and covers no other one that fits; there is none if none fits.
func bestIsNarrow(t []api.Route, k api.Key, bits int) bool {
	best, e := table.Best(t, k, bits)
	for _, r := range t {
		if !fits(r.Prefix, k, bits) {
			continue
		}
		if e != api.OK || r != best && covers(best.Prefix, r.Prefix) {
			return false
		}
	}
	return e == api.ErrNone || slices.Contains(t, best) && fits(best.Prefix, k, bits)
}

func TestStaysRightBest(t *testing.T) {
	r := rand.New(rand.NewSource(6))
	for range 100 {
		l := table.Sort(randomRoutes(r, 250))
		if !table.Right(l) {
			t.Fatalf("%v", l)
		}
		for range 60 {
			k := randomPrefix(r)
			if !bestIsNarrow(l, k.Key, k.Bits) {
				t.Fatalf("%v, %v", l, k)
			}
			if got := table.Under(l, k); !table.Right(got) {
				t.Fatalf("%v, %v: %v", l, k, got)
			}
		}
	}
}

// The rules that hold everywhere.

// calls are those that answer a list, of a table and changes.
func calls(t testing.TB) map[string]func([]api.Route, []api.Change) []api.Route {
	p := prefix(t, "10.0.0.0/8")
	return map[string]func([]api.Route, []api.Change) []api.Route{
		"Apply": func(l []api.Route, c []api.Change) []api.Route { out, _ := table.Apply(l, c); return out },
		"Under": func(l []api.Route, _ []api.Change) []api.Route { return table.Under(l, p) },
		"Sort":  func(l []api.Route, _ []api.Change) []api.Route { return table.Sort(l) },
		"others": func(l []api.Route, _ []api.Change) []api.Route {
			table.Right(l)
			table.Get(l, p)
			table.Best(l, p.Key, p.Bits)
			return nil
		},
	}
}

// ruled are tables and changes, of all that may come of them.
func ruled(t testing.TB) ([][]api.Route, [][]api.Change) {
	l := mixed(t)
	tables := [][]api.Route{nil, {}, l[:1], l, reversed(l), full(255), full(256)}
	for _, w := range wrongTables(t) {
		tables = append(tables, w)
	}
	b := lines(t, "9.0.0.0/8 8")[0]
	changes := [][]api.Change{nil, {}, put(b), put(l[0]), gone(l[0]), gone(l...), put(api.Route{}), gone(b), slices.Concat(put(b), gone(l[0], b)), slices.Concat(gone(l[0]), put(b), gone(api.Route{})), put(full(257)...)}
	return tables, changes
}

// What is handed in is not changed, its spare room neither, not even by who gets the answer.
func TestHandedIn(t *testing.T) {
	tables, changes := ruled(t)
	for name, call := range calls(t) {
		for _, l := range tables {
			for _, c := range changes {
				inTable, tableChanged := guardedTable(l)
				inChanges, changesChanged := guarded(c, fillChange)
				out := call(inTable, inChanges)
				if tableChanged() || changesChanged() {
					t.Fatalf("%s changes %v, %v", name, l, c)
				}
				spoil(out)
				if tableChanged() || changesChanged() {
					t.Fatalf("%s hands out %v, %v", name, l, c)
				}
			}
		}
	}
}

// What is answered stays as it is, whatever is done to what was handed in, or to another answer.
func TestAnswered(t *testing.T) {
	tables, changes := ruled(t)
	for name, call := range calls(t) {
		for _, l := range tables {
			for _, c := range changes {
				inTable, _ := guardedTable(l)
				inChanges, _ := guarded(c, fillChange)
				first, second := call(inTable, inChanges), call(inTable, inChanges)
				want := slices.Clone(first)
				spoil(second)
				spoil(inTable)
				clear(inChanges[:cap(inChanges)])
				if !slices.Equal(first, want) {
					t.Fatalf("%s keeps of %v, %v", name, l, c)
				}
				if again := call(l, c); !slices.Equal(again, want) {
					t.Fatalf("%s of %v, %v: not the same again", name, l, c)
				}
			}
		}
	}
}
