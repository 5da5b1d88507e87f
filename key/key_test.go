package key_test

import (
	"fmt"
	"math"
	"strings"
	"testing"

	"byway/api"
	"byway/key"
)

// text is a key as its 128 bits, laid byte by byte: what the tests hold the layer against.
func text(k api.Key) string {
	var b strings.Builder
	for _, x := range k {
		fmt.Fprintf(&b, "%08b", x)
	}
	return b.String()
}

// ofText is the key whose first bits are those of s, the others 0.
func ofText(s string) api.Key {
	var k api.Key
	for i, c := range s {
		if c == '1' {
			k[i/8] += 1 << (7 - i%8)
		}
	}
	return k
}

// prefix is the one of so many bits whose first ones are those of s.
func prefix(bits int, s string) api.Prefix {
	return api.Prefix{Bits: bits, Len: len(s), Key: ofText(s)}
}

// filled is a key all of whose bytes are b.
func filled(b byte) api.Key {
	var k api.Key
	for i := range k {
		k[i] = b
	}
	return k
}

// keys are some that differ early, late, and nowhere in what counts.
func keys() []api.Key {
	return []api.Key{
		{},
		filled(0xFF),
		filled(0xA5),
		filled(0x5A),
		{0x80},
		{0x7F, 0xFF, 0xFF, 0xFF},
		{10, 1, 2, 3},
		{10, 1, 2, 2},
		{10, 0, 0, 0, 0x80},
		{0, 0, 0, 1},
		{15: 1},
		{15: 0x80},
		{7: 1, 8: 0x80},
		{0x20, 0x01, 0x0D, 0xB8, 0, 0, 0, 0x12, 0x34, 0x56, 0x78, 0x9A, 0xBC, 0xDE, 0xF0, 0x0F},
	}
}

// numbers are all places of a key, those beside it, and those that wrap round when they are multiplied.
func numbers() []int {
	l := []int{math.MinInt, math.MinInt / 4, -1 << 62, -1 << 32, -200, 1 << 32, 1 << 61, 1 << 62, math.MaxInt / 4, math.MaxInt}
	for n := -9; n <= 140; n++ {
		l = append(l, n)
	}
	return l
}

// prefixes may be, all of them, in order: those of few bits whole, and those near to a whole key.
func prefixes() []api.Prefix {
	var l []api.Prefix
	for _, bits := range []int{api.Short, api.Wide} {
		l = append(l, under(bits, "", 4)...)
		l = append(l, under(bits, strings.Repeat("1", bits-2), bits)...)
	}
	return l
}

// under has the prefix s, and behind it all longer ones, to Len to, half by half.
func under(bits int, s string, to int) []api.Prefix {
	l := []api.Prefix{prefix(bits, s)}
	if len(s) < to {
		l = append(l, under(bits, s+"0", to)...)
		l = append(l, under(bits, s+"1", to)...)
	}
	return l
}

// wrong are prefixes that may not be.
func wrong() []api.Prefix {
	return []api.Prefix{
		{},
		{Bits: 0, Len: 0, Key: api.Key{10}},
		{Bits: 1, Len: 1},
		{Bits: 31, Len: 8, Key: api.Key{10}},
		{Bits: 33, Len: 8, Key: api.Key{10}},
		{Bits: 64, Len: 8, Key: api.Key{10}},
		{Bits: 127, Len: 8, Key: api.Key{10}},
		{Bits: 129, Len: 8, Key: api.Key{10}},
		{Bits: 256, Len: 200},
		{Bits: -api.Short, Len: 0},
		{Bits: -api.Short, Len: -api.Short},
		{Bits: math.MaxInt, Len: 8, Key: api.Key{10}},
		{Bits: math.MinInt, Len: math.MinInt},
		{Bits: api.Short, Len: -1},
		{Bits: api.Short, Len: 33},
		{Bits: api.Short, Len: 128},
		{Bits: api.Short, Len: math.MaxInt, Key: filled(0xFF)},
		{Bits: api.Short, Len: math.MinInt},
		{Bits: api.Wide, Len: -1},
		{Bits: api.Wide, Len: 129},
		{Bits: api.Wide, Len: math.MaxInt, Key: filled(0xFF)},
		{Bits: api.Wide, Len: math.MinInt},
		{Bits: api.Short, Len: 0, Key: api.Key{0x80}},
		{Bits: api.Short, Len: 7, Key: api.Key{1}},
		{Bits: api.Short, Len: 8, Key: api.Key{10, 0x80}},
		{Bits: api.Short, Len: 8, Key: api.Key{10, 0, 0, 1}},
		{Bits: api.Short, Len: 31, Key: api.Key{10, 0, 0, 1}},
		{Bits: api.Short, Len: 32, Key: api.Key{10, 0, 0, 1, 0x80}},
		{Bits: api.Short, Len: 32, Key: api.Key{15: 1}},
		{Bits: api.Wide, Len: 0, Key: api.Key{15: 1}},
		{Bits: api.Wide, Len: 32, Key: api.Key{10, 0, 0, 1, 0x80}},
		{Bits: api.Wide, Len: 127, Key: api.Key{15: 1}},
	}
}

// P1.1

func TestMay(t *testing.T) {
	for _, p := range prefixes() {
		if !key.May(p) {
			t.Errorf("May(%v): false", p)
		}
	}
	for _, p := range wrong() {
		if key.May(p) {
			t.Errorf("May(%v): true", p)
		}
	}
}

func TestMayEachLength(t *testing.T) {
	for _, bits := range []int{api.Short, api.Wide} {
		for last := range 128 {
			k := ofText(strings.Repeat("0", last) + "1")
			for n := -1; n <= bits+1; n++ {
				want := last < n && n <= bits
				if got := key.May(api.Prefix{Bits: bits, Len: n, Key: k}); got != want {
					t.Errorf("bits %d, length %d, bit %d alone: %v", bits, n, last, got)
				}
			}
		}
	}
}

func TestBit(t *testing.T) {
	for _, k := range keys() {
		for _, n := range numbers() {
			want := 0
			if 0 <= n && n < 128 {
				want = int(text(k)[n] - '0')
			}
			if got := key.Bit(k, n); got != want {
				t.Errorf("Bit(%x, %d): %d", k, n, got)
			}
		}
	}
}

func TestCut(t *testing.T) {
	for _, k := range keys() {
		for _, n := range numbers() {
			want := ofText(text(k)[:max(0, min(n, 128))])
			if got := key.Cut(k, n); got != want {
				t.Errorf("Cut(%x, %d): %x", k, n, got)
			}
		}
	}
}

func TestCommon(t *testing.T) {
	for _, a := range keys() {
		for n := range 128 {
			b := a
			b[n/8] ^= 1 << (7 - n%8)
			if got := key.Common(a, b); got != n {
				t.Errorf("Common(%x, %x): %d", a, b, got)
			}
		}
		for _, b := range keys() {
			want := 0
			for want < 128 && text(a)[want] == text(b)[want] {
				want++
			}
			if got := key.Common(a, b); got != want {
				t.Errorf("Common(%x, %x): %d", a, b, got)
			}
		}
	}
}

func TestStep(t *testing.T) {
	for _, k := range keys() {
		for _, n := range numbers() {
			want := 0
			if 0 <= n && n < 32 {
				fmt.Sscanf(text(k)[4*n:4*n+4], "%b", &want)
			}
			if got := key.Step(k, n); got != want {
				t.Errorf("Step(%x, %d): %d", k, n, got)
			}
		}
	}
}

// P1.2

func TestFits(t *testing.T) {
	for _, p := range prefixes() {
		for _, k := range keys() {
			s := text(k)
			want := s[:p.Len] == text(p.Key)[:p.Len] && !strings.Contains(s[p.Bits:], "1")
			if got := key.Fits(p, k); got != want {
				t.Errorf("Fits(%v, %x): %v", p, k, got)
			}
		}
	}
}

func TestFitsEdges(t *testing.T) {
	all := prefix(api.Short, "")
	for n := range 128 {
		k := ofText(strings.Repeat("0", n) + "1")
		if got := key.Fits(all, k); got != (n < 32) {
			t.Errorf("bit %d alone: %v", n, got)
		}
		if !key.Fits(prefix(api.Wide, ""), k) {
			t.Errorf("bit %d alone doesn't fit", n)
		}
	}
	for _, bits := range []int{api.Short, api.Wide} {
		whole := prefix(bits, strings.Repeat("1", bits))
		if !key.Fits(whole, whole.Key) {
			t.Errorf("a whole key of %d bits doesn't fit itself", bits)
		}
		if key.Fits(whole, key.Cut(whole.Key, bits-1)) {
			t.Errorf("a whole key of %d bits fits another one", bits)
		}
	}
}

func TestCovers(t *testing.T) {
	for _, p := range prefixes() {
		for _, q := range prefixes() {
			want := p.Bits == q.Bits && strings.HasPrefix(text(q.Key)[:q.Len], text(p.Key)[:p.Len])
			if got := key.Covers(p, q); got != want {
				t.Errorf("Covers(%v, %v): %v", p, q, got)
			}
		}
	}
}

func TestCoversExample(t *testing.T) {
	wide := api.Prefix{Bits: api.Short, Len: 8, Key: api.Key{10}}
	narrow := api.Prefix{Bits: api.Short, Len: 16, Key: api.Key{10, 1}}
	if !key.Covers(wide, narrow) || key.Covers(narrow, wide) || !key.Covers(wide, wide) {
		t.Error("10.0.0.0/8 and 10.1.0.0/16")
	}
	// Its key fits, but it is shorter.
	if key.Covers(wide, api.Prefix{Bits: api.Short}) || key.Covers(prefix(api.Short, "0000"), prefix(api.Short, "00")) {
		t.Error("a shorter one is covered")
	}
}

func TestLess(t *testing.T) {
	l := prefixes()
	for i, p := range l {
		for n, q := range l {
			if got := key.Less(p, q); got != (i < n) {
				t.Errorf("Less(%v, %v): %v", p, q, got)
			}
		}
	}
}

// Bytes are held against each other as such: one above 127 isn't below 0.
func TestLessBytes(t *testing.T) {
	for n := range 16 {
		var a, b api.Key
		a[n], b[n] = 0x7F, 0x80
		if n < 15 {
			a[n+1] = 0xFF
		}
		p := api.Prefix{Bits: api.Wide, Len: 128, Key: a}
		q := api.Prefix{Bits: api.Wide, Len: 8*n + 1, Key: b}
		if !key.Less(p, q) || key.Less(q, p) {
			t.Errorf("byte %d", n)
		}
	}
}

func TestWrongPrefixes(t *testing.T) {
	for _, p := range wrong() {
		for _, k := range append(keys(), p.Key) {
			if key.Fits(p, k) {
				t.Errorf("Fits(%v, %x)", p, k)
			}
		}
		for _, q := range append(prefixes(), wrong()...) {
			if key.Covers(p, q) || key.Covers(q, p) {
				t.Errorf("Covers of %v and %v", p, q)
			}
			if key.Less(p, q) || key.Less(q, p) {
				t.Errorf("Less of %v and %v", p, q)
			}
		}
	}
}

// P1.3

// lasts are keys of so many bits that end in each way under each prefix of prefixes().
func lasts(bits int) []api.Key {
	var l []api.Key
	for _, p := range prefixes() {
		if p.Bits != bits {
			continue
		}
		rest := strings.Repeat("1", bits-p.Len)
		l = append(l, p.Key, ofText(text(p.Key)[:p.Len]+rest))
	}
	return l
}

func TestCoverOrApart(t *testing.T) {
	l := prefixes()
	ends := map[int][]api.Key{api.Short: lasts(api.Short), api.Wide: lasts(api.Wide)}
	for _, p := range l {
		for _, q := range l {
			if p.Bits != q.Bits {
				continue
			}
			cover := key.Covers(p, q) || key.Covers(q, p)
			both := false
			for _, k := range ends[p.Bits] {
				both = both || key.Fits(p, k) && key.Fits(q, k)
			}
			if cover != both {
				t.Errorf("%v and %v: covered %v, a key fits both %v", p, q, cover, both)
			}
		}
	}
}

func TestCoverIsNotLater(t *testing.T) {
	for _, p := range prefixes() {
		for _, q := range prefixes() {
			if key.Covers(p, q) && (key.Less(q, p) || p != q && !key.Less(p, q)) {
				t.Errorf("%v covers %v, but is later", p, q)
			}
		}
	}
}

// Who covers fits all that who is covered fits.
func TestCoverFitsAll(t *testing.T) {
	for _, p := range prefixes() {
		for _, q := range prefixes() {
			if !key.Covers(p, q) {
				continue
			}
			for _, k := range lasts(p.Bits) {
				if key.Fits(q, k) && !key.Fits(p, k) {
					t.Errorf("%v covers %v, but doesn't fit %x", p, q, k)
				}
			}
		}
	}
}
