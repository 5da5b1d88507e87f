package trie_test

import (
	"fmt"
	"math"
	"math/rand"
	"slices"
	"strings"
	"testing"

	"byway/api"
	"byway/route"
	"byway/table"
	"byway/trie"
)

// What the tests hold the layer against: nodes by the digits that lead to them, four bits each, and prefixes as texts of bits.

// digits by their numbers.
const digits = "0123456789abcdef"

// bitsOf is a key's 128 bits as text.
func bitsOf(k api.Key) string {
	var b [128]byte
	for i := range b {
		b[i] = '0' + k[i/8]>>(7-i%8)&1
	}
	return string(b[:])
}

// digitsOf are a key's 32 digits.
func digitsOf(k api.Key) string {
	return fmt.Sprintf("%x", k[:])
}

// bitsOfDigits are as many bits for each of four.
func bitsOfDigits(s string) string {
	var b strings.Builder
	for _, c := range s {
		fmt.Fprintf(&b, "%04b", strings.IndexRune(digits, c))
	}
	return b.String()
}

// ofBits is the prefix whose bits are those of s.
func ofBits(bits int, s string) api.Prefix {
	p := api.Prefix{Bits: bits, Len: len(s)}
	for i, c := range s {
		if c == '1' {
			p.Key[i/8] |= 0x80 >> (i % 8)
		}
	}
	return p
}

// endOf is the way, by digits, to the node where a prefix's route ends.
func endOf(p api.Prefix) string {
	ahead := 0
	for 4*(ahead+1) < p.Len {
		ahead++
	}
	return digitsOf(p.Key)[:ahead]
}

// bestOf is what stands in a slot: the longest of the routes that end in its node and have the bits on the way, and its own.
func bestOf(ending []api.Route, way string) api.Slot {
	var best api.Slot
	for _, r := range ending {
		if strings.HasPrefix(bitsOfDigits(way), bitsOf(r.Prefix.Key)[:r.Prefix.Len]) && r.Prefix.Len >= best.Len {
			best = api.Slot{Len: r.Prefix.Len + 1, Hop: r.Hop}
		}
	}
	return best
}

// asTrie is the trie of a right table's routes of so many bits, however many nodes that has.
func asTrie(t []api.Route, bits int) api.Trie {
	ways, numbers, ending := []string{""}, map[string]int{"": 0}, map[string][]api.Route{}
	for _, r := range t {
		if r.Prefix.Bits != bits {
			continue
		}
		end := endOf(r.Prefix)
		for n := range len(end) + 1 {
			if _, there := numbers[end[:n]]; !there {
				numbers[end[:n]] = len(ways)
				ways = append(ways, end[:n])
			}
		}
		ending[end] = append(ending[end], r)
	}
	out := api.Trie{Bits: bits}
	for _, way := range ways {
		var node api.Node
		for d := range node.Slots {
			on := way + digits[d:d+1]
			node.Slots[d], node.Next[d] = bestOf(ending[way], on), numbers[on]
		}
		out.Nodes = append(out.Nodes, node)
	}
	return out
}

// stepsOf tells at how many steps each node is, if all of them are named as they must be: each goes back to the first one.
func stepsOf(t api.Trie) ([]int, bool) {
	by := map[int][]int{}
	for i, n := range t.Nodes {
		for _, next := range n.Next {
			if next != 0 {
				by[next] = append(by[next], i)
			}
		}
	}
	if len(by) != len(t.Nodes)-1 {
		return nil, false
	}
	steps := []int{1}
	for i := 1; i < len(t.Nodes); i++ {
		if len(by[i]) != 1 || by[i][0] >= i {
			return nil, false
		}
		steps = append(steps, steps[by[i][0]]+1)
	}
	return steps, true
}

// isRight tells whether a trie is.
func isRight(t api.Trie) bool {
	if t.Bits != 32 && t.Bits != 128 || len(t.Nodes) == 0 || len(t.Nodes) > 512 {
		return false
	}
	steps, named := stepsOf(t)
	if !named {
		return false
	}
	for i, n := range t.Nodes {
		if steps[i] > t.Bits/4 {
			return false
		}
		for _, s := range n.Slots {
			if s.Len < 0 || s.Len > 4*steps[i]+1 {
				return false
			}
		}
	}
	return true
}

// beyond tells whether a key has bits behind the first so many.
func beyond(k api.Key, bits int) bool {
	return strings.Contains(bitsOf(k)[bits:], "1")
}

// wayOf is a key's way through a right trie.
func wayOf(t api.Trie, k api.Key) []int {
	if beyond(k, t.Bits) {
		return nil
	}
	way := []int{0}
	for _, c := range digitsOf(k) {
		next := t.Nodes[way[len(way)-1]].Next[strings.IndexRune(digits, c)]
		if next == 0 {
			break
		}
		way = append(way, next)
	}
	return way
}

// foundIn is what a key finds in a right trie.
func foundIn(t api.Trie, k api.Key) (int, uint16, api.Errno) {
	if beyond(k, t.Bits) {
		return 0, 0, api.ErrArg
	}
	var slots []api.Slot
	for i, at := range wayOf(t, k) {
		if s := t.Nodes[at].Slots[strings.IndexByte(digits, digitsOf(k)[i])]; s.Len > 0 {
			slots = append(slots, s)
		}
	}
	if len(slots) == 0 {
		return 0, 0, api.ErrNone
	}
	slices.SortStableFunc(slots, func(a, b api.Slot) int { return b.Len - a.Len })
	return slots[0].Len - 1, slots[0].Hop, api.OK
}

// same tells whether two tries are.
func same(a, b api.Trie) bool {
	return a.Bits == b.Bits && slices.Equal(a.Nodes, b.Nodes)
}

// nothing tells whether a trie is the zero value.
func nothing(t api.Trie) bool {
	return t.Bits == 0 && len(t.Nodes) == 0
}

// Inputs.

var kinds = []int{api.Short, api.Wide}

// noBits are numbers of bits that no key has.
var noBits = []int{0, 1, 4, 31, 33, 64, 127, 129, 256, -1, -32, -128, math.MaxInt, math.MinInt, math.MaxInt - 3, math.MinInt + 32}

// lines are routes by their text.
func lines(t testing.TB, l ...string) []api.Route {
	t.Helper()
	var out []api.Route
	for _, s := range l {
		r, e := route.ReadLine(s)
		if e != api.OK {
			t.Fatalf("%q: %d", s, e)
		}
		out = append(out, r)
	}
	return out
}

// key of a text.
func key(t testing.TB, s string) api.Key {
	t.Helper()
	k, _, e := route.ReadKey(s)
	if e != api.OK {
		t.Fatalf("%q: %d", s, e)
	}
	return k
}

// made is the trie of a table that has one.
func made(t testing.TB, l []api.Route, bits int) api.Trie {
	t.Helper()
	got, e := trie.Build(l, bits)
	if e != api.OK {
		t.Fatalf("of %d routes, %d bits: %d", len(l), bits, e)
	}
	return got
}

// tableOf routes in any order.
func tableOf(l ...api.Route) []api.Route {
	return table.Sort(l)
}

// mixed is a table of both kinds, with a prefix of no bits and a whole key of each.
func mixed(t testing.TB) []api.Route {
	return lines(t,
		"0.0.0.0/0 9",
		"10.0.0.0/8 1",
		"10.1.0.0/16 2",
		"10.1.2.0/24 3",
		"10.1.2.3/32 4",
		"10.2.0.0/15 5",
		"255.255.255.255/32 6",
		"00000000000000000000000000000000/0 10",
		"0a000000000000000000000000000000/7 11",
		"0a010203000000000000000000000000/32 12",
		"0a010203000000000000000000000000/128 13",
		"20010db8000000000000000000000000/33 14",
		"ffffffffffffffffffffffffffffffff/128 15",
	)
}

// upTo are all texts of at most n bits.
func upTo(n int) []string {
	out := []string{""}
	for at := 0; len(out[at]) < n; at++ {
		out = append(out, out[at]+"0", out[at]+"1")
	}
	return out
}

// allKeys are those of all first n bits; the others are 0.
func allKeys(n int) []api.Key {
	var out []api.Key
	for i := range 1 << n {
		out = append(out, ofBits(api.Wide, fmt.Sprintf("%0*b", n, i)).Key)
	}
	return out
}

// broadShort is a table of 256 routes whose trie of short keys has 273 nodes and one for each route that is deeper.
func broadShort(deeper func(i int) bool) []api.Route {
	var l []api.Route
	for i := range 256 {
		r := api.Route{Prefix: api.Prefix{Bits: api.Short, Len: 12, Key: api.Key{byte(i)}}, Hop: uint16(i)}
		if deeper(i) {
			r.Prefix.Len = 13
		}
		l = append(l, r)
	}
	return l
}

// longWide are 17 routes whose trie of wide keys has 495 nodes and one for each four bits of the second one, from 8 on.
func longWide(fours int) []api.Route {
	var l []api.Route
	for i := range 16 {
		l = append(l, api.Route{Prefix: api.Prefix{Bits: api.Wide, Len: 128, Key: api.Key{byte(i << 4)}}, Hop: uint16(i)})
	}
	second := api.Route{Prefix: api.Prefix{Bits: api.Wide, Len: 4 * fours, Key: api.Key{0x0f}}, Hop: 99}
	return slices.Insert(l, 1, second)
}

// randomBits are n of them, of which many begin alike.
func randomBits(r *rand.Rand, n int) string {
	var b strings.Builder
	for i := range n {
		digit := "0"
		if i%5 == 3 || i > n-4 {
			digit = string('0' + rune(r.Intn(2)))
		}
		b.WriteString(digit)
	}
	return b.String()
}

// randomTable is a right one of at most n routes.
func randomTable(r *rand.Rand, n int) []api.Route {
	var l []api.Route
	for range n {
		bits := kinds[r.Intn(2)]
		size := r.Intn(14)
		switch r.Intn(6) {
		case 0:
			size = bits
		case 1:
			size = r.Intn(bits + 1)
		}
		l = append(l, api.Route{Prefix: ofBits(bits, randomBits(r, size)), Hop: uint16(r.Intn(1 << 16))})
	}
	return tableOf(l...)
}

// cut a key behind its first bits.
func cut(k api.Key, bits int) api.Key {
	return ofBits(api.Wide, bitsOf(k)[:bits]).Key
}

// keysNear a table's routes, of so many bits: the first and the last one of each, those beside them, and some that are there by chance.
func keysNear(r *rand.Rand, t []api.Route, bits int) []api.Key {
	out := []api.Key{{}, cut(ofBits(api.Wide, strings.Repeat("1", 128)).Key, bits)}
	for _, x := range t {
		p := x.Prefix
		text := bitsOf(p.Key)[:p.Len]
		out = append(out, cut(p.Key, bits), cut(ofBits(api.Wide, text+strings.Repeat("1", 128-p.Len)).Key, bits))
		if p.Len > 0 {
			other := []byte(text)
			other[p.Len-1] ^= 1
			out = append(out, cut(ofBits(api.Wide, string(other)).Key, bits))
		}
		some := p.Key
		some[r.Intn(bits/8)] ^= byte(1 << r.Intn(8))
		out = append(out, cut(some, bits))
	}
	return out
}

// chain is a right trie's nodes, if n is at most bits / 4: each names the next one.
func chain(bits, n int) api.Trie {
	t := api.Trie{Bits: bits, Nodes: make([]api.Node, n)}
	for i := range n - 1 {
		t.Nodes[i].Next[i*7%16] = i + 1
	}
	return t
}

// broad is a trie of which each node names the next sixteen that nobody names yet.
func broad(bits, n int) api.Trie {
	t := api.Trie{Bits: bits, Nodes: make([]api.Node, n)}
	for i := 1; i < n; i++ {
		t.Nodes[(i-1)/16].Next[(i-1)%16] = i
	}
	return t
}

// randomTrie is a right one of n nodes, at least; its slots have any length that may end there.
func randomTrie(r *rand.Rand, bits, n int) api.Trie {
	t := api.Trie{Bits: bits, Nodes: make([]api.Node, n)}
	steps := []int{1}
	for i := 1; i < n; {
		by, digit := r.Intn(i), r.Intn(3)
		if r.Intn(3) > 0 {
			by = i - 1
		}
		if steps[by] < bits/4 && t.Nodes[by].Next[digit] == 0 {
			t.Nodes[by].Next[digit] = i
			steps = append(steps, steps[by]+1)
			i++
		}
	}
	for i := range t.Nodes {
		for d := range 4 {
			if r.Intn(2) == 0 {
				t.Nodes[i].Slots[d] = api.Slot{Len: r.Intn(4*steps[i] + 2), Hop: uint16(r.Intn(1 << 16))}
			}
		}
	}
	return t
}

// randomWay is a key that goes some way through such a trie.
func randomWay(r *rand.Rand, bits int) api.Key {
	var k api.Key
	for i := range k[:bits/8] {
		k[i] = byte(r.Intn(4)<<4 | r.Intn(4))
	}
	return k
}

// clone is a trie of its own memory.
func clone(t api.Trie) api.Trie {
	t.Nodes = slices.Clone(t.Nodes)
	return t
}

// wrongTries are tries that aren't right, each for one cause.
func wrongTries() map[string]api.Trie {
	out := map[string]api.Trie{}
	wrong := func(what string, change func(t *api.Trie)) {
		t := broad(api.Short, 40)
		t.Nodes[0].Slots[0] = api.Slot{Len: 1, Hop: 5}
		change(&t)
		out[what] = t
	}
	next := func(i, digit, to int) func(t *api.Trie) {
		return func(t *api.Trie) { t.Nodes[i].Next[digit] = to }
	}
	length := func(i, digit, to int) func(t *api.Trie) {
		return func(t *api.Trie) { t.Nodes[i].Slots[digit].Len = to }
	}
	for _, bits := range noBits {
		wrong(fmt.Sprint("of ", bits, " bits"), func(t *api.Trie) { t.Bits = bits })
	}
	wrong("of no nodes", func(t *api.Trie) { t.Nodes = nil })
	wrong("of an empty list of nodes", func(t *api.Trie) { t.Nodes = t.Nodes[:0] })
	wrong("a node named twice by one", next(5, 0, 39))
	wrong("a node named twice, by the last one too", next(39, 0, 38))
	wrong("a node named twice, and one by none", next(0, 1, 1))
	wrong("a node named by none", next(0, 3, 0))
	wrong("the last node named by none", next(2, 6, 0))
	wrong("one node more, named by none", func(t *api.Trie) { t.Nodes = append(t.Nodes, api.Node{}) })
	wrong("a node named by itself, and by another one", next(39, 0, 39))
	wrong("a node named by itself alone", func(t *api.Trie) { next(2, 6, 0)(t); next(39, 0, 39)(t) })
	wrong("a node named by one of a greater number", func(t *api.Trie) { next(0, 4, 0)(t); next(39, 0, 5)(t) })
	wrong("two that name one another", func(t *api.Trie) {
		t.Nodes[2].Next[5], t.Nodes[2].Next[6] = 0, 0
		t.Nodes[38].Next[0], t.Nodes[39].Next[0] = 39, 38
	})
	wrong("a number that no node has", next(39, 0, 40))
	wrong("a number that no node has, at the first one", next(0, 15, 40))
	wrong("a great number that no node has", next(39, 15, math.MaxInt))
	wrong("a number below 0", next(39, 0, -1))
	wrong("a number below 0, at the first one", next(0, 0, -1))
	wrong("a number that is far below 0", next(39, 15, math.MinInt))
	wrong("a Len below 0", length(0, 15, -1))
	wrong("a Len far below 0, at the last node", length(39, 15, math.MinInt))
	wrong("a Len above 5 at the first step", length(0, 0, 6))
	wrong("a Len above 9 at the second step", length(1, 15, 10))
	wrong("a Len above 13 at the third step", length(39, 15, 14))
	wrong("a great Len", length(20, 7, math.MaxInt))
	out["513 nodes"] = broad(api.Wide, 513)
	out["1000 nodes"] = broad(api.Wide, 1000)
	out["a node at nine steps of short keys"] = chain(api.Short, 9)
	out["a node at 33 steps of wide keys"] = chain(api.Wide, 33)
	out["nothing"] = api.Trie{}
	out["no nodes of wide keys"] = api.Trie{Bits: api.Wide}
	return out
}

// What is handed in, and what is answered.

// guarded is a list with spare room; what is answered beside it tells whether the list, or the room, was changed.
func guarded[T comparable](l []T, filler T) ([]T, func() bool) {
	whole := slices.Concat(l, slices.Repeat([]T{filler}, 5))
	before := slices.Clone(whole)
	return whole[:len(l)], func() bool { return !slices.Equal(whole, before) }
}

var fillRoute = api.Route{Prefix: api.Prefix{Bits: 7, Len: 7, Key: api.Key{7}}, Hop: 7}

// fillNode is what no trie has.
func fillNode() api.Node {
	var n api.Node
	for i := range n.Slots {
		n.Slots[i], n.Next[i] = api.Slot{Len: 777, Hop: 777}, 777
	}
	return n
}

// guardedTrie is a trie whose nodes have spare room.
func guardedTrie(t api.Trie) (api.Trie, func() bool) {
	nodes, changed := guarded(t.Nodes, fillNode())
	return api.Trie{Bits: t.Bits, Nodes: nodes}, changed
}

// P4.1

func TestBuildExamples(t *testing.T) {
	for _, c := range []struct {
		line  string
		nodes int
	}{
		{"10.0.0.0/8 1", 2},
		{"10.0.0.0/9 1", 3},
		{"0.0.0.0/0 1", 1},
		{"0.0.0.0/1 1", 1},
		{"128.0.0.0/4 1", 1},
		{"128.0.0.0/5 1", 2},
		{"10.0.0.0/12 1", 3},
		{"10.0.0.0/13 1", 4},
		{"10.0.0.0/28 1", 7},
		{"10.0.0.0/29 1", 8},
		{"10.1.2.3/32 1", 8},
		{"00000000000000000000000000000000/0 1", 1},
		{"0a000000000000000000000000000000/124 1", 31},
		{"0a000000000000000000000000000000/125 1", 32},
		{"0a000000000000000000000000000000/128 1", 32},
	} {
		l := lines(t, c.line)
		bits := l[0].Prefix.Bits
		got := made(t, l, bits)
		if len(got.Nodes) != c.nodes || got.Bits != bits {
			t.Errorf("%s: %d nodes of %d bits", c.line, len(got.Nodes), got.Bits)
		}
	}
}

func TestBuildOneRoute(t *testing.T) {
	want := api.Trie{Bits: api.Short, Nodes: make([]api.Node, 2)}
	want.Nodes[0].Next[0] = 1
	want.Nodes[1].Slots[10] = api.Slot{Len: 9, Hop: 77}
	if got := made(t, lines(t, "10.0.0.0/8 77"), api.Short); !same(got, want) {
		t.Errorf("8 bits: %v", got)
	}
	want.Nodes = append(want.Nodes, api.Node{})
	want.Nodes[1].Slots[10] = api.Slot{}
	want.Nodes[1].Next[10] = 2
	for d := 8; d < 16; d++ {
		want.Nodes[2].Slots[d] = api.Slot{Len: 10, Hop: 0}
	}
	if got := made(t, lines(t, "10.128.0.0/9 0"), api.Short); !same(got, want) {
		t.Errorf("9 bits: %v", got)
	}
}

func TestBuildNoRoute(t *testing.T) {
	for _, bits := range kinds {
		for what, l := range map[string][]api.Route{
			"nil":               nil,
			"no route":          {},
			"the other kind":    tableOf(api.Route{Prefix: ofBits(api.Short+api.Wide-bits, ""), Hop: 1}, api.Route{Prefix: ofBits(api.Short+api.Wide-bits, "0101010101"), Hop: 2}),
			"a whole key of it": tableOf(api.Route{Prefix: ofBits(api.Short+api.Wide-bits, strings.Repeat("1", api.Short+api.Wide-bits)), Hop: 1}),
		} {
			got, e := trie.Build(l, bits)
			if e != api.OK || !same(got, api.Trie{Bits: bits, Nodes: make([]api.Node, 1)}) {
				t.Errorf("%s, %d bits: %v, %d", what, bits, got, e)
			}
		}
	}
}

// TestBuildNoBits: a prefix of no bits is in all slots of the first node where no other one ends.
func TestBuildNoBits(t *testing.T) {
	for _, bits := range kinds {
		got := made(t, []api.Route{{Prefix: ofBits(bits, ""), Hop: 9}}, bits)
		for d := range 16 {
			if len(got.Nodes) != 1 || got.Nodes[0].Slots[d] != (api.Slot{Len: 1, Hop: 9}) || got.Nodes[0].Next[d] != 0 {
				t.Errorf("%d bits: %v", bits, got)
			}
		}
		got = made(t, tableOf(api.Route{Prefix: ofBits(bits, ""), Hop: 9}, api.Route{Prefix: ofBits(bits, "1")}), bits)
		for d := range 16 {
			want := api.Slot{Len: 1, Hop: 9}
			if d >= 8 {
				want = api.Slot{Len: 2}
			}
			if got.Nodes[0].Slots[d] != want {
				t.Errorf("%d bits, slot %d: %v", bits, d, got.Nodes[0].Slots[d])
			}
		}
	}
}

// TestBuildWithinFour: prefixes that end at each place of one node, told slot by slot.
func TestBuildWithinFour(t *testing.T) {
	l := lines(t, "0.0.0.0/0 50", "128.0.0.0/1 51", "160.0.0.0/3 53", "160.0.0.0/4 54", "192.0.0.0/2 52")
	lens := [16]int{1, 1, 1, 1, 1, 1, 1, 1, 2, 2, 5, 4, 3, 3, 3, 3}
	got := made(t, l, api.Short)
	if len(got.Nodes) != 1 {
		t.Fatal(got)
	}
	for d, n := range lens {
		if got.Nodes[0].Slots[d] != (api.Slot{Len: n, Hop: uint16(49 + n)}) {
			t.Errorf("slot %d: %v", d, got.Nodes[0].Slots[d])
		}
	}
	l = lines(t, "10.16.0.0/12 64", "10.16.0.0/13 65", "10.16.0.0/14 66", "10.16.0.0/15 67", "10.16.0.0/16 68")
	lens = [16]int{17, 16, 15, 15, 14, 14, 14, 14}
	got = made(t, l, api.Short)
	if len(got.Nodes) != 4 {
		t.Fatal(got)
	}
	for d, n := range lens {
		want := api.Slot{}
		if n > 0 {
			want = api.Slot{Len: n, Hop: uint16(51 + n)}
		}
		if got.Nodes[3].Slots[d] != want {
			t.Errorf("slot %d of the fourth: %v", d, got.Nodes[3].Slots[d])
		}
	}
	if got.Nodes[2].Slots[1] != (api.Slot{Len: 13, Hop: 64}) || got.Nodes[2].Slots[0] != (api.Slot{}) {
		t.Errorf("the third: %v", got.Nodes[2])
	}
}

// TestBuildNumbers: nodes have their numbers as the routes in order need them first.
func TestBuildNumbers(t *testing.T) {
	l := lines(t, "10.0.0.0/16 1", "10.128.0.0/9 2", "16.0.0.0/20 3", "18.0.0.0/10 4", "160.0.0.0/3 5", "240.0.0.0/5 6")
	got := made(t, l, api.Short)
	want := map[[2]int]int{
		{0, 0}: 1, {1, 10}: 2, {2, 0}: 3,
		{0, 1}: 4, {4, 0}: 5, {5, 0}: 6, {6, 0}: 7,
		{4, 2}: 8, {0, 15}: 9,
	}
	if len(got.Nodes) != 10 {
		t.Fatal(len(got.Nodes))
	}
	for i, n := range got.Nodes {
		for d, next := range n.Next {
			if next != want[[2]int{i, d}] {
				t.Errorf("node %d names %d for %d", i, next, d)
			}
		}
	}
}

func TestBuildEveryPrefixAlone(t *testing.T) {
	for _, bits := range kinds {
		for i, s := range upTo(9) {
			l := []api.Route{{Prefix: ofBits(bits, s), Hop: uint16(i)}}
			if got, e := trie.Build(l, bits); e != api.OK || !same(got, asTrie(l, bits)) {
				t.Fatalf("%q of %d bits: %v, %d", s, bits, got, e)
			}
		}
	}
}

func TestBuildEveryLength(t *testing.T) {
	for _, bits := range kinds {
		for _, four := range []string{"0000", "1111", "1010", "0110"} {
			all := []api.Route{}
			for n := range bits + 1 {
				r := api.Route{Prefix: ofBits(bits, strings.Repeat(four, bits/4)[:n]), Hop: uint16(1000 + n)}
				all = append(all, r)
				got := made(t, []api.Route{r}, bits)
				if !same(got, asTrie([]api.Route{r}, bits)) || len(got.Nodes) != max(1, (n+3)/4) {
					t.Fatalf("%d of %s, %d bits: %v", n, four, bits, got)
				}
			}
			all = tableOf(all...)
			if got := made(t, all, bits); !same(got, asTrie(all, bits)) || len(got.Nodes) != bits/4 {
				t.Errorf("all of %s, %d bits: %d nodes", four, bits, len(got.Nodes))
			}
		}
	}
}

func TestBuildPairs(t *testing.T) {
	l := upTo(5)
	for i, a := range l {
		for _, b := range l[:i] {
			pair := tableOf(api.Route{Prefix: ofBits(api.Short, a), Hop: 1}, api.Route{Prefix: ofBits(api.Short, b), Hop: 2})
			if got, e := trie.Build(pair, api.Short); e != api.OK || !same(got, asTrie(pair, api.Short)) {
				t.Fatalf("%q, %q: %v, %d", a, b, got, e)
			}
		}
	}
}

func TestBuildBothKinds(t *testing.T) {
	l := mixed(t)
	for _, bits := range kinds {
		own := slices.DeleteFunc(slices.Clone(l), func(r api.Route) bool { return r.Prefix.Bits != bits })
		got := made(t, l, bits)
		if !same(got, made(t, own, bits)) || !same(got, asTrie(l, bits)) {
			t.Errorf("%d bits: %v", bits, got)
		}
	}
	if a, b := made(t, l, api.Short), made(t, l, api.Wide); len(a.Nodes) != 15 || len(b.Nodes) != 71 {
		t.Error(len(a.Nodes), len(b.Nodes))
	}
}

func TestBuildRandom(t *testing.T) {
	r := rand.New(rand.NewSource(4))
	for range 300 {
		l := randomTable(r, 1+r.Intn(60))
		for _, bits := range kinds {
			want := asTrie(l, bits)
			got, e := trie.Build(l, bits)
			switch {
			case len(want.Nodes) > 512 && (e != api.ErrFull || !nothing(got)):
				t.Fatalf("%d nodes: %d", len(want.Nodes), e)
			case len(want.Nodes) <= 512 && (e != api.OK || !same(got, want)):
				t.Fatalf("%v: %v, %d", l, got, e)
			}
		}
	}
}

func TestBuildMostNodes(t *testing.T) {
	first := func(n int) func(int) bool { return func(i int) bool { return i < n } }
	last := func(n int) func(int) bool { return func(i int) bool { return i >= 256-n } }
	for _, c := range []struct {
		what  string
		t     []api.Route
		bits  int
		nodes int
	}{
		{"short, deep ones first", broadShort(first(238)), api.Short, 511},
		{"short, deep ones first", broadShort(first(239)), api.Short, 512},
		{"short, deep ones first", broadShort(first(240)), api.Short, 513},
		{"short, deep ones last", broadShort(last(239)), api.Short, 512},
		{"short, deep ones last", broadShort(last(240)), api.Short, 513},
		{"short, all deep", broadShort(first(256)), api.Short, 529},
		{"short, none deep", broadShort(first(0)), api.Short, 273},
		{"wide", longWide(16), api.Wide, 511},
		{"wide", longWide(17), api.Wide, 512},
		{"wide", longWide(18), api.Wide, 513},
		{"wide", longWide(32), api.Wide, 527},
		{"the other kind has too many", longWide(18), api.Short, 1},
		{"the other kind has too many", broadShort(first(256)), api.Wide, 1},
	} {
		want := asTrie(c.t, c.bits)
		if len(want.Nodes) != c.nodes {
			t.Fatalf("%s: the test means %d nodes, and makes %d", c.what, c.nodes, len(want.Nodes))
		}
		got, e := trie.Build(c.t, c.bits)
		if c.nodes > 512 && (e != api.ErrFull || !nothing(got)) {
			t.Errorf("%s, %d nodes: %d, %d nodes are told", c.what, c.nodes, e, len(got.Nodes))
		}
		if c.nodes <= 512 && (e != api.OK || !same(got, want)) {
			t.Errorf("%s, %d nodes: %d, %d nodes are told", c.what, c.nodes, e, len(got.Nodes))
		}
	}
}

// TestBuildOneMore: to a trie of 512 nodes come routes that need none more, and such as need one.
func TestBuildOneMore(t *testing.T) {
	for i := range 16 {
		digit := fmt.Sprintf("%04b", i)
		none := longWide(17)
		for _, s := range []string{"", digit[:2], digit, digit + "00", digit + "0000", digit + strings.Repeat("0", 100), digit + strings.Repeat("0", 120) + "0001"} {
			none = append(none, api.Route{Prefix: ofBits(api.Wide, s), Hop: 7})
		}
		none = tableOf(none...)
		if got := made(t, none, api.Wide); len(got.Nodes) != 512 || !same(got, asTrie(none, api.Wide)) {
			t.Errorf("%s: %d nodes", digit, len(got.Nodes))
		}
		one := tableOf(append(none, api.Route{Prefix: ofBits(api.Wide, digit+strings.Repeat("0", 116)+"00010000"), Hop: 7})...)
		if got, e := trie.Build(one, api.Wide); e != api.ErrFull || !nothing(got) {
			t.Errorf("%s, one more: %d, %d nodes", digit, e, len(got.Nodes))
		}
	}
}

func TestBuildErrArg(t *testing.T) {
	l := mixed(t)
	wrong := map[string][]api.Route{
		"a prefix twice":       slices.Insert(slices.Clone(l), 3, l[3]),
		"a prefix of two hops": slices.Insert(slices.Clone(l), 3, api.Route{Prefix: l[3].Prefix, Hop: 1}),
		"not in order":         {l[1], l[0]},
		"wide ones first":      slices.Concat(l[7:], l[:7]),
		"no prefix":            {{}},
		"a bit behind":         {{Prefix: api.Prefix{Bits: api.Short, Len: 8, Key: api.Key{10, 1}}}},
		"a Len too great":      {{Prefix: api.Prefix{Bits: api.Short, Len: 33, Key: api.Key{10}}}},
		"a Len below 0":        {{Prefix: api.Prefix{Bits: api.Wide, Len: -1}}},
		"64 bits":              {{Prefix: api.Prefix{Bits: 64, Len: 8, Key: api.Key{10}}}},
		"one wide that is not": slices.Concat(l, []api.Route{{Prefix: api.Prefix{Bits: api.Wide, Len: 129}}}),
		"257 routes":           append(broadShort(func(int) bool { return false }), l[12]),
		"too many nodes, too":  slices.Concat(longWide(32), longWide(32)),
	}
	for what, w := range wrong {
		for _, bits := range append(noBits, kinds...) {
			if got, e := trie.Build(w, bits); e != api.ErrArg || !nothing(got) {
				t.Errorf("%s, %d bits: %v, %d", what, bits, got, e)
			}
		}
	}
	for _, bits := range noBits {
		for _, right := range [][]api.Route{nil, l, longWide(32), broadShort(func(int) bool { return true })} {
			if got, e := trie.Build(right, bits); e != api.ErrArg || !nothing(got) {
				t.Errorf("%d routes, %d bits: %v, %d", len(right), bits, got, e)
			}
		}
	}
}

func TestBuildLeavesTable(t *testing.T) {
	for _, l := range [][]api.Route{nil, mixed(t), longWide(18), append(mixed(t), fillRoute)} {
		for _, bits := range []int{api.Short, api.Wide, 64} {
			in, changed := guarded(l, fillRoute)
			got, e := trie.Build(in, bits)
			again, f := trie.Build(in, bits)
			if e != f || !same(got, again) {
				t.Errorf("%d bits: told unlike", bits)
			}
			nodes := got.Nodes[:cap(got.Nodes)]
			for i := range nodes {
				nodes[i] = fillNode()
			}
			third, _ := trie.Build(in, bits)
			if changed() || !same(third, again) {
				t.Errorf("%d bits: the table, or another answer, was changed", bits)
			}
		}
	}
}

// P4.2

func TestRight(t *testing.T) {
	right := map[string]api.Trie{
		"a node, short":  {Bits: api.Short, Nodes: make([]api.Node, 1)},
		"a node, wide":   {Bits: api.Wide, Nodes: make([]api.Node, 1)},
		"8 steps, short": chain(api.Short, 8),
		"9 steps, wide":  chain(api.Wide, 9),
		"32 steps, wide": chain(api.Wide, 32),
		"511 nodes":      broad(api.Wide, 511),
		"512 nodes":      broad(api.Wide, 512),
		"512 of short":   broad(api.Short, 512),
	}
	short := broad(api.Wide, 3)
	short.Nodes[2].Slots[3] = api.Slot{Len: 1, Hop: 3}
	right["a short route at a late node"] = short
	hop := broad(api.Wide, 3)
	hop.Nodes[0].Slots[3] = api.Slot{Hop: 3}
	right["a hop of no route"] = hop
	for what, c := range right {
		if !trie.Right(c) || !isRight(c) {
			t.Errorf("%s is not right", what)
		}
	}
	for what, c := range wrongTries() {
		if trie.Right(c) || isRight(c) {
			t.Errorf("%s is right", what)
		}
	}
}

// TestRightLens: at each step, in each slot, the least Len and the greatest one, and what lies beside them.
func TestRightLens(t *testing.T) {
	for _, bits := range kinds {
		c := chain(bits, bits/4)
		for i := range c.Nodes {
			for d := range 16 {
				for n, want := range map[int]bool{-1: false, 0: true, 1: true, 4*i + 4: true, 4*i + 5: true, 4*i + 6: false, 4*i + 7: false} {
					c.Nodes[i].Slots[d].Len = n
					if trie.Right(c) != want {
						t.Errorf("%d bits, node %d, slot %d, %d: not %v", bits, i, d, n, want)
					}
				}
				c.Nodes[i].Slots[d].Len = 0
			}
		}
	}
}

// TestRightFewNodes holds all tries of three nodes, and of four, each of which names at most two others.
func TestRightFewNodes(t *testing.T) {
	rights := 0
	for _, c := range []struct{ nodes, from, to int }{{1, -1, 2}, {2, -1, 3}, {3, -1, 4}, {4, 0, 4}} {
		all := 1
		for range 2 * c.nodes {
			all *= c.to - c.from
		}
		x := api.Trie{Bits: api.Short, Nodes: make([]api.Node, c.nodes)}
		for n := range all {
			for i := range 2 * c.nodes {
				x.Nodes[i/2].Next[15*(i%2)] = c.from + n%(c.to-c.from)
				n /= c.to - c.from
			}
			want := isRight(x)
			if want {
				rights++
			}
			if trie.Right(x) != want {
				t.Fatalf("%v: not %v", x, want)
			}
		}
	}
	// Each node but the first one has its choice of the slots that are left of those ahead.
	if rights != 1+2+2*3+2*3*4 {
		t.Errorf("%d right ones", rights)
	}
}

func TestRightRandom(t *testing.T) {
	r := rand.New(rand.NewSource(5))
	seen := map[bool]int{}
	for range 4000 {
		x := randomTrie(r, kinds[r.Intn(2)], 1+r.Intn(20))
		if !trie.Right(x) || !isRight(x) {
			t.Fatalf("%v is not right", x)
		}
		i, d := r.Intn(len(x.Nodes)), r.Intn(4)
		switch r.Intn(4) {
		case 0:
			x.Nodes[i].Next[d] = r.Intn(len(x.Nodes)+3) - 1
		case 1:
			x.Nodes[i].Slots[d].Len = r.Intn(4*len(x.Nodes)+8) - 1
		case 2:
			j := r.Intn(len(x.Nodes))
			x.Nodes[i], x.Nodes[j] = x.Nodes[j], x.Nodes[i]
		case 3:
			x.Bits = kinds[r.Intn(2)]
		}
		want := isRight(x)
		seen[want]++
		if trie.Right(x) != want {
			t.Fatalf("%v: not %v", x, want)
		}
	}
	if seen[false] < 500 || seen[true] < 500 {
		t.Error(seen)
	}
}

func TestRightOfBuilt(t *testing.T) {
	r := rand.New(rand.NewSource(6))
	for range 300 {
		l := randomTable(r, r.Intn(60))
		for _, bits := range kinds {
			if got, e := trie.Build(l, bits); e == api.OK && !trie.Right(got) {
				t.Fatalf("of %v: %v", l, got)
			}
		}
	}
	for _, l := range [][]api.Route{longWide(17), broadShort(func(i int) bool { return i < 239 })} {
		if got := made(t, l, l[0].Prefix.Bits); !trie.Right(got) {
			t.Error("512 nodes are not right")
		}
	}
}

func TestWalk(t *testing.T) {
	x := made(t, lines(t, "0.0.0.0/0 9", "10.0.0.0/8 1", "10.16.0.0/12 2", "10.32.0.0/32 3", "240.0.0.0/5 4"), api.Short)
	for text, want := range map[string][]int{
		"10.16.0.0":       {0, 1, 2},
		"10.31.255.255":   {0, 1, 2},
		"10.32.0.0":       {0, 1, 2, 3, 4, 5, 6, 7},
		"10.32.0.15":      {0, 1, 2, 3, 4, 5, 6, 7},
		"10.32.0.16":      {0, 1, 2, 3, 4, 5, 6},
		"10.33.0.0":       {0, 1, 2, 3},
		"10.0.0.0":        {0, 1, 2},
		"11.0.0.0":        {0, 1},
		"16.0.0.0":        {0},
		"0.0.0.0":         {0, 1},
		"255.255.255.255": {0, 8},
	} {
		if got := trie.Walk(x, key(t, text)); !slices.Equal(got, want) {
			t.Errorf("%s: %v", text, got)
		}
	}
	for _, bits := range kinds {
		x := chain(bits, bits/4)
		var k api.Key
		for i := range bits / 4 {
			k[i/2] |= byte(i*7%16) << (4 - 4*(i%2))
		}
		got := trie.Walk(x, k)
		if len(got) != bits/4 || !slices.IsSorted(got) || got[len(got)-1] != bits/4-1 {
			t.Errorf("all %d steps: %v", bits/4, got)
		}
	}
}

func TestWalkAndFindOfOneNode(t *testing.T) {
	for _, bits := range kinds {
		x := api.Trie{Bits: bits, Nodes: make([]api.Node, 1)}
		for _, k := range []api.Key{{}, {0xff}, {1, 2, 3, 4}} {
			if got := trie.Walk(x, k); !slices.Equal(got, []int{0}) {
				t.Errorf("%d bits, %v: %v", bits, k, got)
			}
			if n, hop, e := trie.Find(x, k); n != 0 || hop != 0 || e != api.ErrNone {
				t.Errorf("%d bits, %v: %d %d %d", bits, k, n, hop, e)
			}
		}
	}
}

func TestFind(t *testing.T) {
	x := made(t, lines(t, "10.0.0.0/7 1", "10.0.0.0/8 2", "10.64.0.0/10 3", "10.64.0.0/32 4", "128.0.0.0/1 65535", "144.0.0.0/4 0"), api.Short)
	for _, c := range []struct {
		k   string
		n   int
		hop uint16
		e   api.Errno
	}{
		{"11.0.0.0", 7, 1, api.OK},
		{"10.0.0.0", 8, 2, api.OK},
		{"10.63.255.255", 8, 2, api.OK},
		{"10.64.0.1", 10, 3, api.OK},
		{"10.64.0.0", 32, 4, api.OK},
		{"10.128.0.0", 8, 2, api.OK},
		{"255.255.255.255", 1, 65535, api.OK},
		{"144.0.0.0", 4, 0, api.OK},
		{"160.0.0.0", 1, 65535, api.OK},
		{"12.0.0.0", 0, 0, api.ErrNone},
		{"9.255.255.255", 0, 0, api.ErrNone},
		{"0.0.0.0", 0, 0, api.ErrNone},
		{"127.255.255.255", 0, 0, api.ErrNone},
	} {
		if n, hop, e := trie.Find(x, key(t, c.k)); n != c.n || hop != c.hop || e != c.e {
			t.Errorf("%s: %d %d %d", c.k, n, hop, e)
		}
	}
}

// TestFindLongest: the longest route on the way needn't be in the last node, and of several the first one tells.
func TestFindLongest(t *testing.T) {
	for _, c := range []struct {
		slots []api.Slot
		n     int
		hop   uint16
		e     api.Errno
	}{
		{[]api.Slot{{Len: 1, Hop: 1}, {Len: 9, Hop: 2}, {Len: 13, Hop: 3}, {Len: 17, Hop: 4}}, 16, 4, api.OK},
		{[]api.Slot{{Len: 1, Hop: 1}, {Len: 9, Hop: 2}, {Len: 3, Hop: 3}, {Len: 8, Hop: 4}}, 8, 2, api.OK},
		{[]api.Slot{{Len: 5, Hop: 1}, {Len: 4, Hop: 2}, {Len: 3, Hop: 3}, {Len: 2, Hop: 4}}, 4, 1, api.OK},
		{[]api.Slot{{Len: 3, Hop: 1}, {Len: 3, Hop: 2}, {Len: 3, Hop: 3}, {Len: 3, Hop: 4}}, 2, 1, api.OK},
		{[]api.Slot{{Len: 3, Hop: 1}, {Len: 4, Hop: 2}, {Len: 4, Hop: 3}, {Len: 3, Hop: 4}}, 3, 2, api.OK},
		{[]api.Slot{{}, {}, {Len: 1, Hop: 3}, {Len: 1, Hop: 4}}, 0, 3, api.OK},
		{[]api.Slot{{}, {}, {Len: 1}, {}}, 0, 0, api.OK},
		{[]api.Slot{{Hop: 1}, {Len: 2, Hop: 2}, {Hop: 3}, {Hop: 4}}, 1, 2, api.OK},
		{[]api.Slot{{Hop: 1}, {Hop: 2}, {Hop: 3}, {Hop: 4}}, 0, 0, api.ErrNone},
		{[]api.Slot{{}, {}, {}, {}}, 0, 0, api.ErrNone},
	} {
		x := api.Trie{Bits: api.Wide, Nodes: make([]api.Node, 4)}
		for i, s := range c.slots {
			x.Nodes[i].Slots[3] = s
			x.Nodes[i].Slots[4] = api.Slot{Len: 4*i + 5, Hop: 99}
			if i < 3 {
				x.Nodes[i].Next[3] = i + 1
			}
		}
		if n, hop, e := trie.Find(x, api.Key{0x33, 0x33, 0x33}); n != c.n || hop != c.hop || e != c.e {
			t.Errorf("%v: %d %d %d", c.slots, n, hop, e)
		}
	}
}

func TestWalkAndFindRandom(t *testing.T) {
	r := rand.New(rand.NewSource(7))
	far, none := 0, 0
	for range 1500 {
		x := randomTrie(r, kinds[r.Intn(2)], 1+r.Intn(40))
		for range 10 {
			k := randomWay(r, x.Bits)
			if r.Intn(8) == 0 {
				k = randomWay(r, api.Wide)
			}
			way := trie.Walk(x, k)
			if !slices.Equal(way, wayOf(x, k)) {
				t.Fatalf("%v in %v: %v", k, x, way)
			}
			n, hop, e := trie.Find(x, k)
			if n0, hop0, e0 := foundIn(x, k); n != n0 || hop != hop0 || e != e0 {
				t.Fatalf("%v in %v: %d %d %d", k, x, n, hop, e)
			}
			if len(way) > 4 {
				far++
			}
			if e == api.ErrNone {
				none++
			}
		}
	}
	if far < 100 || none < 100 {
		t.Error(far, none)
	}
}

func TestKeysWithBitsBeyond(t *testing.T) {
	x := made(t, mixed(t), api.Short)
	for n := range 96 {
		k := key(t, "10.1.2.3")
		k[4+n/8] |= 0x80 >> (n % 8)
		if way := trie.Walk(x, k); len(way) != 0 {
			t.Errorf("bit %d: %v", 32+n, way)
		}
		if n, hop, e := trie.Find(x, k); n != 0 || hop != 0 || e != api.ErrArg {
			t.Errorf("bit %d: %d %d %d", 32+n, n, hop, e)
		}
	}
	w := made(t, mixed(t), api.Wide)
	if n, hop, e := trie.Find(w, key(t, "ffffffffffffffffffffffffffffffff")); n != 128 || hop != 15 || e != api.OK {
		t.Errorf("all bits of a wide key: %d %d %d", n, hop, e)
	}
}

func TestOfNoRightTrie(t *testing.T) {
	for what, x := range wrongTries() {
		for _, k := range []api.Key{{}, {0x01}, {0xff, 0xff}, {0x12, 0x34, 0x56, 0x78}, {15: 1}} {
			if way := trie.Walk(x, k); len(way) != 0 {
				t.Errorf("%s: %v", what, way)
			}
			if n, hop, e := trie.Find(x, k); n != 0 || hop != 0 || e != api.ErrArg {
				t.Errorf("%s: %d %d %d", what, n, hop, e)
			}
		}
		if n := trie.Deep(x); n != 0 {
			t.Errorf("%s: %d steps", what, n)
		}
	}
}

func TestDeep(t *testing.T) {
	for _, c := range []struct {
		bits int
		deep int
		t    []api.Route
	}{
		{api.Short, 1, nil},
		{api.Wide, 1, nil},
		{api.Short, 1, lines(t, "0.0.0.0/0 1")},
		{api.Short, 1, lines(t, "16.0.0.0/4 1")},
		{api.Short, 2, lines(t, "16.0.0.0/5 1")},
		{api.Short, 2, lines(t, "10.0.0.0/8 1")},
		{api.Short, 3, lines(t, "10.0.0.0/9 1")},
		{api.Short, 8, mixed(t)},
		{api.Wide, 32, mixed(t)},
		{api.Short, 7, lines(t, "10.0.0.0/28 1")},
		// The node that is farthest isn't the one of the highest number.
		{api.Short, 8, lines(t, "10.0.0.0/32 1", "20.0.0.0/8 2")},
		{api.Short, 8, lines(t, "10.0.0.0/8 1", "20.0.0.0/32 2", "30.0.0.0/16 3")},
		{api.Wide, 1, lines(t, "10.0.0.0/32 1")},
	} {
		if got := trie.Deep(made(t, c.t, c.bits)); got != c.deep {
			t.Errorf("%v, %d bits: %d", c.t, c.bits, got)
		}
	}
	for n := range 32 {
		if got := trie.Deep(chain(api.Wide, n+1)); got != n+1 {
			t.Errorf("%d in a chain: %d", n+1, got)
		}
	}
	if got := trie.Deep(broad(api.Short, 512)); got != 4 {
		t.Errorf("512 nodes: %d", got)
	}
}

func TestDeepRandom(t *testing.T) {
	r := rand.New(rand.NewSource(8))
	for range 500 {
		x := randomTrie(r, kinds[r.Intn(2)], 1+r.Intn(30))
		steps, _ := stepsOf(x)
		if got := trie.Deep(x); got != slices.Max(steps) {
			t.Fatalf("%v: %d", x, got)
		}
	}
}

func TestTrieStays(t *testing.T) {
	r := rand.New(rand.NewSource(9))
	tries := []api.Trie{broad(api.Short, 512), chain(api.Wide, 32), made(t, mixed(t), api.Short), made(t, mixed(t), api.Wide)}
	for _, x := range wrongTries() {
		tries = append(tries, x)
	}
	for range 50 {
		tries = append(tries, randomTrie(r, kinds[r.Intn(2)], 1+r.Intn(30)))
	}
	for _, x := range tries {
		in, changed := guardedTrie(x)
		k := key(t, "10.1.2.3")
		right, deep := trie.Right(in), trie.Deep(in)
		n, hop, e := trie.Find(in, k)
		way := trie.Walk(in, k)
		was := slices.Clone(way)
		for i := range way[:cap(way)] {
			way[:cap(way)][i] = 999
		}
		n2, hop2, e2 := trie.Find(in, k)
		if changed() || trie.Right(in) != right || trie.Deep(in) != deep || !slices.Equal(trie.Walk(in, k), was) || n != n2 || hop != hop2 || e != e2 {
			t.Errorf("%v: was changed, or tells unlike", x)
		}
	}
}

// P4.3

// likeBest holds what a key finds in a trie against the table's best route.
func likeBest(t *testing.T, l []api.Route, x api.Trie, k api.Key) {
	t.Helper()
	best, e := table.Best(l, k, x.Bits)
	n, hop, f := trie.Find(x, k)
	if e != f || n != best.Prefix.Len || hop != best.Hop {
		t.Fatalf("%v in %v: %d %d %d, and not %v, %d", k, l, n, hop, f, best, e)
	}
}

func TestFindAsBestOfSubsets(t *testing.T) {
	few := []string{"", "1", "101", "1010", "10101", "1010101", "10101010", "101010101"}
	keys := allKeys(10)
	for set := range 1 << len(few) {
		var l []api.Route
		for i, s := range few {
			if set>>i&1 == 1 {
				l = append(l, api.Route{Prefix: ofBits(api.Short, s), Hop: uint16(100 + i)})
			}
		}
		l = tableOf(l...)
		x := made(t, l, api.Short)
		for _, k := range keys {
			likeBest(t, l, x, k)
		}
	}
}

func TestFindAsBestOfRandomTables(t *testing.T) {
	r := rand.New(rand.NewSource(10))
	whole := 0
	for range 150 {
		l := randomTable(r, r.Intn(40))
		for _, bits := range kinds {
			x, e := trie.Build(l, bits)
			if e != api.OK {
				continue
			}
			for _, k := range keysNear(r, l, bits) {
				likeBest(t, l, x, k)
				if n, _, _ := trie.Find(x, k); n == bits {
					whole++
				}
			}
		}
	}
	if whole < 100 {
		t.Error(whole)
	}
}

func TestFindAsBestOfMostNodes(t *testing.T) {
	r := rand.New(rand.NewSource(11))
	for _, l := range [][]api.Route{longWide(17), broadShort(func(i int) bool { return i%256 < 239 }), mixed(t)} {
		for _, bits := range kinds {
			x := made(t, l, bits)
			for _, k := range keysNear(r, l, bits) {
				likeBest(t, l, x, k)
			}
		}
	}
}

func TestFindAsBestOfKeysBeyond(t *testing.T) {
	l := mixed(t)
	for _, bits := range kinds {
		x := made(t, l, bits)
		for _, k := range []api.Key{{10, 1, 2, 3, 1}, {10, 1, 2, 3, 0x80}, {15: 1}, {4: 0x80}} {
			likeBest(t, l, x, k)
		}
	}
}
