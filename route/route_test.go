package route_test

import (
	"fmt"
	"math"
	"math/rand"
	"regexp"
	"strconv"
	"strings"
	"testing"

	"byway/api"
	"byway/key"
	"byway/route"
)

// wide is a key whose digits are all sixteen, from both sides.
var wide = api.Key{0x01, 0x23, 0x45, 0x67, 0x89, 0xAB, 0xCD, 0xEF, 0xFE, 0xDC, 0xBA, 0x98, 0x76, 0x54, 0x32, 0x10}

// filled is a key whose first bits are 1.
func filled(bits int) api.Key {
	var k api.Key
	for i := range k {
		k[i] = 0xFF
	}
	return key.Cut(k, bits)
}

// keyOf is a key's text, laid apart from the layer: what the tests hold it against.
func keyOf(k api.Key, bits int) string {
	if bits == api.Short {
		return fmt.Sprintf("%d.%d.%d.%d", k[0], k[1], k[2], k[3])
	}
	return fmt.Sprintf("%032x", k[:])
}

// prefixOf is a prefix's text.
func prefixOf(p api.Prefix) string {
	return fmt.Sprintf("%s/%d", keyOf(p.Key, p.Bits), p.Len)
}

// lineOf is a route's line.
func lineOf(r api.Route) string {
	return fmt.Sprintf("%s %d", prefixOf(r.Prefix), r.Hop)
}

// keys are of so many bits: all of one byte, and some of many.
func keys(bits int) []api.Key {
	l := []api.Key{{}, filled(bits), key.Cut(wide, bits), {10, 1, 2, 3}, {192, 0, 2, 255}, {0, 0, 0, 1}, {0x20, 0x01, 0x0D, 0xB8}}
	for i := range bits / 8 {
		for b := range 256 {
			var k api.Key
			k[i] = byte(b)
			l = append(l, k)
		}
	}
	return l
}

// prefixes may be: of both kinds, of all lengths.
func prefixes() []api.Prefix {
	var l []api.Prefix
	for _, bits := range []int{api.Short, api.Wide} {
		for n := range bits + 1 {
			for _, k := range []api.Key{{}, filled(bits), wide, {10, 1}, {0, 0, 0, 1}} {
				l = append(l, api.Prefix{Bits: bits, Len: n, Key: key.Cut(k, n)})
			}
		}
	}
	return l
}

// hops are those at which a number gets one digit more, and the last ones.
func hops() []uint16 {
	return []uint16{0, 1, 7, 9, 10, 99, 100, 255, 256, 999, 1000, 9999, 10000, 32767, 32768, 60000, 65534, 65535}
}

// wrong are prefixes that may not be.
func wrong() []api.Prefix {
	return []api.Prefix{
		{},
		{Bits: 31, Len: 8, Key: api.Key{10}},
		{Bits: 33, Len: 8, Key: api.Key{10}},
		{Bits: 127},
		{Bits: 129},
		{Bits: -api.Short},
		{Bits: math.MaxInt, Len: math.MaxInt},
		{Bits: math.MinInt, Len: math.MinInt},
		{Bits: api.Short, Len: -1},
		{Bits: api.Short, Len: 33},
		{Bits: api.Short, Len: math.MaxInt},
		{Bits: api.Wide, Len: -1},
		{Bits: api.Wide, Len: 129},
		{Bits: api.Wide, Len: math.MinInt},
		{Bits: api.Short, Len: 0, Key: api.Key{0x80}},
		{Bits: api.Short, Len: 7, Key: api.Key{1}},
		{Bits: api.Short, Len: 31, Key: api.Key{1, 2, 3, 5}},
		{Bits: api.Short, Len: 32, Key: api.Key{1, 2, 3, 4, 5}},
		{Bits: api.Short, Len: 32, Key: api.Key{15: 1}},
		{Bits: api.Wide, Len: 0, Key: api.Key{15: 1}},
		{Bits: api.Wide, Len: 127, Key: api.Key{15: 1}},
	}
}

// P2.1

func TestKey(t *testing.T) {
	for _, bits := range []int{api.Short, api.Wide} {
		for _, k := range keys(bits) {
			k = key.Cut(k, bits)
			if s, e := route.Key(k, bits); e != api.OK || s != keyOf(k, bits) {
				t.Errorf("Key(%x, %d): %q, %d", k, bits, s, e)
			}
		}
	}
	if s, e := route.Key(wide, api.Wide); e != api.OK || s != "0123456789abcdeffedcba9876543210" {
		t.Errorf("a wide key: %q, %d", s, e)
	}
}

func TestKeyWrong(t *testing.T) {
	for _, bits := range []int{0, 1, 8, 31, 33, 64, 127, 129, 256, -1, -api.Short, -api.Wide, math.MinInt, math.MaxInt, api.Short + 1<<32} {
		if s, e := route.Key(api.Key{}, bits); e != api.ErrArg || s != "" {
			t.Errorf("of %d bits: %q, %d", bits, s, e)
		}
	}
	for n := range 128 {
		var k api.Key
		k[n/8] = 1 << (7 - n%8)
		want := api.OK
		if n >= api.Short {
			want = api.ErrArg
		}
		if s, e := route.Key(k, api.Short); e != want || (s == "") != (e != api.OK) {
			t.Errorf("bit %d alone: %q, %d", n, s, e)
		}
		if s, e := route.Key(k, api.Wide); e != api.OK || s != keyOf(k, api.Wide) {
			t.Errorf("bit %d alone, of a wide one: %q, %d", n, s, e)
		}
	}
}

func TestPrefix(t *testing.T) {
	for _, p := range prefixes() {
		if s, e := route.Prefix(p); e != api.OK || s != prefixOf(p) {
			t.Errorf("Prefix(%v): %q, %d", p, s, e)
		}
	}
}

func TestLine(t *testing.T) {
	for _, p := range prefixes() {
		for _, hop := range hops() {
			r := api.Route{Prefix: p, Hop: hop}
			if s, e := route.Line(r); e != api.OK || s != lineOf(r) {
				t.Errorf("Line(%v): %q, %d", r, s, e)
			}
		}
	}
}

func TestExample(t *testing.T) {
	r := api.Route{Prefix: api.Prefix{Bits: api.Short, Len: 16, Key: api.Key{10, 1}}, Hop: 7}
	if s, e := route.Line(r); e != api.OK || s != "10.1.0.0/16 7" {
		t.Errorf("%q, %d", s, e)
	}
	if got, e := route.ReadLine("10.1.0.0/16 7"); e != api.OK || got != r {
		t.Errorf("%v, %d", got, e)
	}
}

func TestWrongPrefixes(t *testing.T) {
	for _, p := range wrong() {
		if s, e := route.Prefix(p); e != api.ErrArg || s != "" {
			t.Errorf("Prefix(%v): %q, %d", p, s, e)
		}
		if s, e := route.Line(api.Route{Prefix: p, Hop: 7}); e != api.ErrArg || s != "" {
			t.Errorf("Line(%v): %q, %d", p, s, e)
		}
	}
}

// P2.2

// The forms of texts, as patterns: what is read is held against them, and their numbers as strconv reads them.
var (
	number     = `(0|[1-9][0-9]*)`
	shortForm  = regexp.MustCompile(`\A` + number + `\.` + number + `\.` + number + `\.` + number + `\z`)
	wideForm   = regexp.MustCompile(`\A[0-9a-f]{32}\z`)
	prefixForm = regexp.MustCompile(`\A([^/ ]*)/` + number + `\z`)
	lineForm   = regexp.MustCompile(`\A([^ ]*) ` + number + `\z`)
)

// What stands beside an error.
var (
	noKey    = api.Key{}
	noPrefix = api.Prefix{}
	noRoute  = api.Route{}
)

// Numbers that are 1 in 64 bits, and in 8, if they wrap round; and one of many digits.
var (
	wraps      = "18446744073709551617"
	wrapsShort = "257"
	manyDigits = strings.Repeat("1", 50)
)

// keyRead is what a text tells of a key.
func keyRead(s string) (k api.Key, bits int, e api.Errno) {
	if len(s) > 60 {
		return noKey, 0, api.ErrLong
	}
	if wideForm.MatchString(s) {
		for i := range k {
			b, _ := strconv.ParseUint(s[2*i:2*i+2], 16, 8)
			k[i] = byte(b)
		}
		return k, api.Wide, api.OK
	}
	m := shortForm.FindStringSubmatch(s)
	if m == nil {
		return noKey, 0, api.ErrForm
	}
	for i, part := range m[1:] {
		b, err := strconv.ParseUint(part, 10, 8)
		if err != nil {
			return noKey, 0, api.ErrForm
		}
		k[i] = byte(b)
	}
	return k, api.Short, api.OK
}

// prefixRead is what a text tells of a prefix.
func prefixRead(s string) (api.Prefix, api.Errno) {
	if len(s) > 60 {
		return noPrefix, api.ErrLong
	}
	m := prefixForm.FindStringSubmatch(s)
	if m == nil {
		return noPrefix, api.ErrForm
	}
	k, bits, e := keyRead(m[1])
	n, err := strconv.ParseUint(m[2], 10, 8)
	p := api.Prefix{Bits: bits, Len: int(n), Key: k}
	if e != api.OK || err != nil || !key.May(p) {
		return noPrefix, api.ErrForm
	}
	return p, api.OK
}

// lineRead is what a text tells of a route.
func lineRead(s string) (api.Route, api.Errno) {
	if len(s) > 60 {
		return noRoute, api.ErrLong
	}
	m := lineForm.FindStringSubmatch(s)
	if m == nil {
		return noRoute, api.ErrForm
	}
	p, e := prefixRead(m[1])
	hop, err := strconv.ParseUint(m[2], 10, 16)
	if e != api.OK || err != nil {
		return noRoute, api.ErrForm
	}
	return api.Route{Prefix: p, Hop: uint16(hop)}, api.OK
}

// readAll reads a text in each way, and tells how many ways took it.
func readAll(t *testing.T, s string) int {
	t.Helper()
	took := 0
	wantKey, wantBits, wantErr := keyRead(s)
	if k, bits, e := route.ReadKey(s); k != wantKey || bits != wantBits || e != wantErr {
		t.Errorf("ReadKey(%q): %x, %d, %d; want %x, %d, %d", s, k, bits, e, wantKey, wantBits, wantErr)
	} else if e == api.OK {
		took++
		// P2.3: what is read has just this text.
		if again, e := route.Key(k, bits); e != api.OK || again != s {
			t.Errorf("ReadKey(%q) tells %q, %d", s, again, e)
		}
	}
	wantPrefix, wantErr := prefixRead(s)
	if p, e := route.ReadPrefix(s); p != wantPrefix || e != wantErr {
		t.Errorf("ReadPrefix(%q): %v, %d; want %v, %d", s, p, e, wantPrefix, wantErr)
	} else if e == api.OK {
		took++
		if again, e := route.Prefix(p); e != api.OK || again != s {
			t.Errorf("ReadPrefix(%q) tells %q, %d", s, again, e)
		}
	}
	wantRoute, wantErr := lineRead(s)
	if r, e := route.ReadLine(s); r != wantRoute || e != wantErr {
		t.Errorf("ReadLine(%q): %v, %d; want %v, %d", s, r, e, wantRoute, wantErr)
	} else if e == api.OK {
		took++
		if again, e := route.Line(r); e != api.OK || again != s {
			t.Errorf("ReadLine(%q) tells %q, %d", s, again, e)
		}
	}
	return took
}

// right are texts that are read, in one way each.
func right() []string {
	return []string{
		"0.0.0.0", "10.0.0.1", "255.255.255.255", "1.20.255.0",
		"0.0.0.0/0", "10.1.0.0/16", "1.2.3.4/32", "1.2.3.4/31", "255.255.255.255/32",
		"0.0.0.0/0 0", "10.1.0.0/16 7", "255.255.255.255/32 65535", "128.0.0.0/1 10",
		"00000000000000000000000000000000", "0123456789abcdeffedcba9876543210", "ffffffffffffffffffffffffffffffff",
		"00000000000000000000000000000000/0", "20010db8000000000000000000000000/32", "ffffffffffffffffffffffffffffffff/128",
		"00000000000000000000000000000000/0 0", "20010db8000000000000000000000000/32 3", "ffffffffffffffffffffffffffffffff/128 65535",
	}
}

func TestRightTexts(t *testing.T) {
	for _, s := range right() {
		if took := readAll(t, s); took != 1 {
			t.Errorf("%q is taken in %d ways", s, took)
		}
	}
}

func TestWrongTexts(t *testing.T) {
	digits := strings.Repeat("0", 32)
	for _, s := range []string{
		"", " ", ".", "/", "...", "/0", " 0", "/ ", ".../0 0", "\x00",
		// Keys: too few or too many parts, empty ones, needless noughts, too great ones, other digits.
		"1", "1.2", "1.2.3", "1.2.3.4.5", "1.2.3.", ".1.2.3", "1..2.3", ".1.2.3.4", "1.2.3.4.",
		"00.0.0.0", "1.2.3.04", "01.2.3.4", "1.2.3.256", "256.0.0.0", "999.9.9.9", "1.2.3.1000",
		"+1.2.3.4", "-1.2.3.4", "-0.2.3.4", "1.2.3.+4", "1.2.3.a", "0x1.2.3.4", "1_0.2.3.4", "1e1.2.3.4", "١.2.3.4",
		" 1.2.3.4", "1.2.3.4 ", "1. 2.3.4", "1.2.3.4\n", "\t1.2.3.4", "1,2,3,4", "1:2:3:4", "1.2.3.4\x00",
		wrapsShort + ".0.0.0", "0.0.0." + wraps, manyDigits + ".0.0.0", "0.0.0." + manyDigits,
		digits[:31], digits + "0", digits[:31] + "A", digits[:31] + "F", digits[:31] + "g", digits[:31] + " ", digits[:31] + "`", digits[:31] + "/",
		digits[:31] + ":", digits[:31] + "@", digits[:31] + "é", digits[:30] + "é", "é" + digits[:30], "+" + digits[:31], "0x" + digits[:30], digits[:31] + ".",
		"20010DB8000000000000000000000000", "2001:db8::", strings.Repeat("0000:", 7) + "0000", digits[:8],
		// Prefixes: no length, too great a one, one that leaves bits behind it.
		"1.2.3.4/", "1.2.3.4/33", "1.2.3.4/032", "1.2.3.4/00", "0.0.0.0/00", "1.2.3.4/-1", "1.2.3.4/+32", "1.2.3.4/ 32", "1.2.3.4 /32", "1.2.3.4/32 ",
		"1.2.3.4/32/", "1.2.3.4//32", "1.2.3.4/32/32", "1.2.3.4/3 2", "1.2.3.4/0x20", "1.2.3.4/128", "1.2.3.5/31", "10.0.0.1/8", "128.0.0.0/0", "0.0.0.1/0",
		"0.0.0.0/255.0.0.0", "0.0.0.0/" + wraps, "0.0.0.0/" + manyDigits, "1.2.3/24", "1.2.3.04/32", "1.2.3.256/32", "/32", "1.2.3.4\\32",
		digits + "/", digits + "/129", digits + "/00", digits + "/0128", digits[:31] + "1/127", digits[:31] + "1/0", digits[:31] + "/0", digits + "0/0",
		"20010DB8000000000000000000000000/32", digits + "/-0", digits + "/ 0", digits + "/1000", digits + "/256",
		// Lines: no hop, too great a one, another blank, two of them.
		"1.2.3.4/32  1", " 1.2.3.4/32 1", "1.2.3.4/32 1 ", "1.2.3.4/32 1\n", "1.2.3.4/32\t1", "1.2.3.4/32\u00a01", "1.2.3.4/32\n1", "1.2.3.4 1", "1.2.3.4/ 1",
		"1.2.3.4/32 65536", "1.2.3.4/32 65537", "1.2.3.4/32 99999", "1.2.3.4/32 100000", "1.2.3.4/32 01", "1.2.3.4/32 00", "1.2.3.4/32 -1", "1.2.3.4/32 +1",
		"1.2.3.4/32 1.", "1.2.3.4/32 0x1", "1.2.3.4/32 1 2", "1.2.3.4/32 " + wraps, "0.0.0.0/0 " + manyDigits, "1.2.3.5/31 1", "1.2.3.4/33 1", "1.2.3.256/32 1",
		"1.2.3.04/32 1", "1.2.3.4/032 1", "+1.2.3.4/32 1", "1.2.3.4 /32 1", "1.2.3.4/32, 1", "1.2.3.4/32 a", "1.2.3.4/32 1/", "7 1.2.3.4/32", "/32 1",
		digits + " 1", digits + "/129 1", digits[:31] + "/0 1", digits + "/0 65536", digits + "/0  1", "20010DB8000000000000000000000000/32 3",
	} {
		if took := readAll(t, s); took != 0 {
			t.Errorf("%q is taken in %d ways", s, took)
		}
	}
}

// A text of 60 bytes is told by its form, one of 61 by its length, whatever stands in it.
func TestLong(t *testing.T) {
	for _, part := range []string{"1", "0", "a", " ", ".", "/", "\n", "\xFF"} {
		for n := 55; n <= 70; n++ {
			s := strings.Repeat(part, n)
			want := api.ErrForm
			if n > 60 {
				want = api.ErrLong
			}
			holdErrors(t, s, want)
		}
	}
	for _, s := range right() {
		for _, blank := range []string{" ", "0", "/"} {
			spare := 60 - len(s)
			holdErrors(t, s+strings.Repeat(blank, spare), api.ErrForm)
			holdErrors(t, s+strings.Repeat(blank, spare+1), api.ErrLong)
			holdErrors(t, strings.Repeat(blank, spare+1)+s, api.ErrLong)
		}
	}
	// A letter of two bytes counts as two.
	holdErrors(t, strings.Repeat("é", 30), api.ErrForm)
	holdErrors(t, strings.Repeat("é", 31), api.ErrLong)
	holdErrors(t, strings.Repeat("1.2.3.4/32 1\n", 1<<16), api.ErrLong)
}

// holdErrors holds that no reader takes s, that each tells this error, and nothing else.
func holdErrors(t *testing.T, s string, want api.Errno) {
	t.Helper()
	if k, bits, e := route.ReadKey(s); k != noKey || bits != 0 || e != want {
		t.Errorf("ReadKey(%.80q): %x, %d, %d", s, k, bits, e)
	}
	if p, e := route.ReadPrefix(s); p != noPrefix || e != want {
		t.Errorf("ReadPrefix(%.80q): %v, %d", s, p, e)
	}
	if r, e := route.ReadLine(s); r != noRoute || e != want {
		t.Errorf("ReadLine(%.80q): %v, %d", s, r, e)
	}
}

// Each number is read up to its limit, and no further.
func TestEachNumber(t *testing.T) {
	for n := range 1100 {
		readAll(t, fmt.Sprintf("0.0.0.%d", n))
		readAll(t, fmt.Sprintf("%d.0.0.0/8", n))
		readAll(t, fmt.Sprintf("0.0.0.0/%d", n))
		readAll(t, fmt.Sprintf("%032x/%d 1", 0, n))
		readAll(t, fmt.Sprintf("0.0.0.0/0 %d", n))
		readAll(t, fmt.Sprintf("0.0.0.0/0 %d", 65536-550+n))
		readAll(t, fmt.Sprintf("%03d.0.0.0", n))
	}
}

// Of each bit alone, and each length, a prefix is read only where the bit isn't behind it.
func TestEachLength(t *testing.T) {
	for _, bits := range []int{api.Short, api.Wide} {
		for last := range bits {
			var k api.Key
			k[last/8] = 1 << (7 - last%8)
			for n := range bits + 2 {
				s := fmt.Sprintf("%s/%d", keyOf(k, bits), n)
				want := api.ErrForm
				if last < n && n <= bits {
					want = api.OK
				}
				if p, e := route.ReadPrefix(s); e != want || p.Len != n && e == api.OK {
					t.Errorf("ReadPrefix(%q): %v, %d", s, p, e)
				}
			}
		}
	}
}

// P2.3

func TestReadAsTold(t *testing.T) {
	for _, bits := range []int{api.Short, api.Wide} {
		for _, k := range keys(bits) {
			k = key.Cut(k, bits)
			s, _ := route.Key(k, bits)
			if got, gotBits, e := route.ReadKey(s); e != api.OK || got != k || gotBits != bits {
				t.Errorf("ReadKey(%q): %x, %d, %d", s, got, gotBits, e)
			}
		}
	}
	for _, p := range prefixes() {
		s, _ := route.Prefix(p)
		if got, e := route.ReadPrefix(s); e != api.OK || got != p {
			t.Errorf("ReadPrefix(%q): %v, %d", s, got, e)
		}
		for _, hop := range hops() {
			r := api.Route{Prefix: p, Hop: hop}
			s, _ := route.Line(r)
			if got, e := route.ReadLine(s); e != api.OK || got != r {
				t.Errorf("ReadLine(%q): %v, %d", s, got, e)
			}
		}
	}
}

func TestEachHop(t *testing.T) {
	p := api.Prefix{Bits: api.Short, Len: 8, Key: api.Key{10}}
	for hop := range 1 << 16 {
		r := api.Route{Prefix: p, Hop: uint16(hop)}
		s, _ := route.Line(r)
		if got, e := route.ReadLine(s); e != api.OK || got != r || s != "10.0.0.0/8 "+strconv.Itoa(hop) {
			t.Errorf("%q: %v, %d", s, got, e)
		}
	}
}

// Texts with one byte more, less, or changed to any other one are read as they should, or not at all.
func TestOneByteOff(t *testing.T) {
	for _, s := range right() {
		for i := range len(s) + 1 {
			for b := range 256 {
				readAll(t, s[:i]+string([]byte{byte(b)})+s[i:])
				if i < len(s) {
					readAll(t, s[:i]+string([]byte{byte(b)})+s[i+1:])
				}
			}
			if i < len(s) {
				readAll(t, s[:i]+s[i+1:])
				readAll(t, s[:i])
				readAll(t, s[i:])
			}
		}
	}
}

// Texts laid of pieces by chance, always the same ones.
func TestPieces(t *testing.T) {
	pieces := []string{"0", "1", "2", "10", "25", "255", "256", "00", ".", ".", ".", ".0.0.0", "1.2.3.4", "/", "/", "/0", "/8", "/32", " ", " ", " 7", "a", "F", "20010db8", "00000000", strings.Repeat("0", 24), strings.Repeat("f", 32)}
	chance := rand.New(rand.NewSource(2))
	took := 0
	for range 200000 {
		var b strings.Builder
		for range chance.Intn(7) {
			b.WriteString(pieces[chance.Intn(len(pieces))])
		}
		took += readAll(t, b.String())
	}
	if took < 1000 {
		t.Errorf("%d texts alone were read", took)
	}
}
