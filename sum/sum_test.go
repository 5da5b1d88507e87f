package sum_test

import (
	"bytes"
	"encoding/binary"
	"hash/crc32"
	"math"
	"math/rand"
	"slices"
	"testing"

	"byway/api"
	"byway/sum"
)

// What the tests hold the layer against: the library's CRC-32, and its numbers' bytes.

// bytesOf is a number's last many bytes, from 1 to 8.
func bytesOf(n uint64, many int) []byte {
	return binary.BigEndian.AppendUint64(nil, n)[8-many:]
}

// sealedOf is b, and its sum behind it.
func sealedOf(b []byte) []byte {
	return binary.BigEndian.AppendUint32(bytes.Clone(b), crc32.ChecksumIEEE(b))
}

// turned is b with the bits at these places turned.
func turned(b []byte, places ...int) []byte {
	t := bytes.Clone(b)
	for _, at := range places {
		t[at/8] ^= 0x80 >> (at % 8)
	}
	return t
}

// Inputs.

// random are so many bytes, the same at each run.
func random(seed int64, many int) []byte {
	b := make([]byte, many)
	rand.New(rand.NewSource(seed)).Read(b)
	return b
}

// texts are no bytes, all single ones, those of the least and of the greatest value, and others.
func texts() [][]byte {
	l := [][]byte{nil, {}, []byte("abc"), []byte("123456789"), {1, 2, 3, 4}, {0, 0, 0, 1}, {1, 0, 0, 0}, {0x80, 0, 0, 0, 0}}
	for x := range 256 {
		l = append(l, []byte{byte(x)})
	}
	for _, many := range []int{2, 3, 4, 5, 7, 8, 9, 24, 256, 1000, 1001, 5000} {
		l = append(l, make([]byte, many), bytes.Repeat([]byte{255}, many), random(int64(many), many))
	}
	return l
}

// numbers are the least and the greatest ones, and those beside each byte's edge.
func numbers() []uint64 {
	l := []uint64{0, 0x010203, 0x0102030405060708, 0x8090A0B0C0D0E0F0, math.MaxUint64 - 1, math.MaxUint64}
	for bits := range 64 {
		l = append(l, 1<<bits-1, 1<<bits, 1<<bits+1, math.MaxUint64-1<<bits)
	}
	return l
}

// P5.1

func TestOf(t *testing.T) {
	if got := sum.Of([]byte("123456789")); got != 0xCBF43926 {
		t.Errorf("Of(123456789): %x", got)
	}
	for _, b := range texts() {
		if got, want := sum.Of(b), crc32.ChecksumIEEE(b); got != want {
			t.Errorf("Of(%x): %x, not %x", b, got, want)
		}
	}
}

func TestOfEdges(t *testing.T) {
	for _, c := range []struct {
		b    []byte
		want uint32
	}{
		{nil, 0},
		{[]byte{}, 0},
		{[]byte{0}, 0xD202EF8D},
		{[]byte{255}, 0xFF000000},
		{[]byte{0, 0, 0, 0}, 0x2144DF1C},
		{[]byte{255, 255, 255, 255}, 0xFFFFFFFF},
	} {
		if got := sum.Of(c.b); got != c.want {
			t.Errorf("Of(%x): %x, not %x", c.b, got, c.want)
		}
	}
}

// In two parts, wherever it is parted, in three, and byte by byte.
func TestOn(t *testing.T) {
	for _, b := range texts() {
		want := crc32.ChecksumIEEE(b)
		for at := 0; at <= len(b); at += 1 + len(b)/100 {
			if got := sum.On(sum.Of(b[:at]), b[at:]); got != want {
				t.Errorf("%x, parted at %d: %x, not %x", b, at, got, want)
			}
			mid := (at + len(b)) / 2
			if got := sum.On(sum.On(sum.Of(b[:at]), b[at:mid]), b[mid:]); got != want {
				t.Errorf("%x, parted at %d and %d: %x, not %x", b, at, mid, got, want)
			}
		}
		var each uint32
		for i := range b {
			each = sum.On(each, b[i:i+1])
		}
		if each != want {
			t.Errorf("%x byte by byte: %x, not %x", b, each, want)
		}
	}
}

// Any number may be a sum, and behind it may be nothing.
func TestOnAnySum(t *testing.T) {
	for _, n := range numbers() {
		s := uint32(n)
		if got := sum.On(s, nil); got != s {
			t.Errorf("On(%x, nil): %x", s, got)
		}
		if got := sum.On(s, []byte{}); got != s {
			t.Errorf("On(%x, {}): %x", s, got)
		}
		for _, b := range [][]byte{{0}, {255}, {0x80, 1}, []byte("123456789"), random(1, 100)} {
			if got, want := sum.On(s, b), crc32.Update(s, crc32.IEEETable, b); got != want {
				t.Errorf("On(%x, %x): %x, not %x", s, b, got, want)
			}
		}
	}
}

func TestPut(t *testing.T) {
	if got := sum.Put(0x010203, 2); !bytes.Equal(got, []byte{2, 3}) {
		t.Errorf("Put(0x010203, 2): %x", got)
	}
	for _, n := range numbers() {
		for many := 1; many <= 8; many++ {
			if got, want := sum.Put(n, many), bytesOf(n, many); !bytes.Equal(got, want) {
				t.Errorf("Put(%x, %d): %x, not %x", n, many, got, want)
			}
		}
	}
}

func TestPutNothing(t *testing.T) {
	for _, n := range numbers() {
		for _, many := range []int{0, -1, -2, -8, -1 << 32, math.MinInt, math.MinInt + 1, 9, 10, 16, 64, 256, 257, 1<<32 + 1, math.MaxInt} {
			if got := sum.Put(n, many); len(got) != 0 {
				t.Errorf("Put(%x, %d): %x", n, many, got)
			}
		}
	}
}

func TestGet(t *testing.T) {
	for _, c := range []struct {
		b    []byte
		want uint64
	}{
		{nil, 0},
		{[]byte{}, 0},
		{[]byte{0}, 0},
		{[]byte{7}, 7},
		{[]byte{255}, 255},
		{[]byte{1, 2}, 258},
		{[]byte{0, 0, 1, 2}, 258},
		{[]byte{1, 2, 3, 4, 5, 6, 7, 8}, 0x0102030405060708},
		{[]byte{0x80, 0, 0, 0, 0, 0, 0, 0}, 1 << 63},
		{bytes.Repeat([]byte{255}, 8), math.MaxUint64},
		{make([]byte, 8), 0},
	} {
		if got := sum.Get(c.b); got != c.want {
			t.Errorf("Get(%x): %x, not %x", c.b, got, c.want)
		}
	}
}

// Of more than eight bytes the last eight are left.
func TestGetMoreThanEight(t *testing.T) {
	for _, n := range numbers() {
		for _, many := range []int{1, 2, 7, 8, 9, 24, 300} {
			for _, ahead := range [][]byte{make([]byte, many), bytes.Repeat([]byte{255}, many), random(int64(many), many)} {
				b := append(ahead, bytesOf(n, 8)...)
				if got := sum.Get(b); got != n {
					t.Fatalf("Get(%x): %x, not %x", b, got, n)
				}
			}
		}
	}
}

func TestGetPut(t *testing.T) {
	for _, n := range numbers() {
		for many := 1; many <= 8; many++ {
			want := n
			if many < 8 {
				want = n % (1 << (8 * many))
			}
			if got := sum.Get(sum.Put(n, many)); got != want {
				t.Errorf("%x by %d bytes: %x, not %x", n, many, got, want)
			}
		}
	}
}

// P5.2

func TestSealed(t *testing.T) {
	if got := sum.Sealed([]byte("123456789")); string(got) != "123456789\xCB\xF4\x39\x26" {
		t.Errorf("Sealed(123456789): %x", got)
	}
	for _, b := range texts() {
		if got, want := sum.Sealed(b), sealedOf(b); !bytes.Equal(got, want) {
			t.Errorf("Sealed(%x): %x, not %x", b, got, want)
		}
	}
}

func TestOpen(t *testing.T) {
	for _, b := range texts() {
		if got, e := sum.Open(sealedOf(b)); e != api.OK || !bytes.Equal(got, b) {
			t.Errorf("%x sealed, opened: %x, %d", b, got, e)
		}
	}
}

// Of just four bytes nothing was sealed, and only those of its sum are so.
func TestOpenFour(t *testing.T) {
	if got, e := sum.Open([]byte{0, 0, 0, 0}); e != api.OK || len(got) != 0 {
		t.Errorf("Open(0, 0, 0, 0): %x, %d", got, e)
	}
	for at := range 4 {
		for x := 1; x < 256; x++ {
			b := make([]byte, 4)
			b[at] = byte(x)
			if got, e := sum.Open(b); e != api.ErrSum || len(got) != 0 {
				t.Errorf("Open(%x): %x, %d", b, got, e)
			}
		}
	}
}

// Too few bytes are told as such, be they a sum's or not.
func TestOpenErrLong(t *testing.T) {
	for many := range 4 {
		for _, b := range [][]byte{make([]byte, many), bytes.Repeat([]byte{255}, many), random(1, many), sealedOf(nil)[:many], sealedOf([]byte("abc"))[:many]} {
			if got, e := sum.Open(b); e != api.ErrLong || len(got) != 0 {
				t.Errorf("Open(%x): %x, %d", b, got, e)
			}
		}
	}
	if got, e := sum.Open(nil); e != api.ErrLong || len(got) != 0 {
		t.Errorf("Open(nil): %x, %d", got, e)
	}
}

func TestOpenErrSum(t *testing.T) {
	for _, b := range texts() {
		own := crc32.ChecksumIEEE(b)
		wrong := map[string][]byte{
			"one byte more":    append(sealedOf(b), 0),
			"one byte ahead":   append([]byte{1}, sealedOf(b)...),
			"its sum ahead":    append(bytesOf(uint64(own), 4), append(bytes.Clone(b), 1)...),
			"its sum, and one": append(bytes.Clone(b), bytesOf(uint64(own)+1, 4)...),
			"its sum, turned":  append(bytes.Clone(b), bytesOf(uint64(^own), 4)...),
		}
		for what, w := range wrong {
			if got, e := sum.Open(w); e != api.ErrSum || len(got) != 0 {
				t.Errorf("%x, %s: %x, %d", b, what, got, e)
			}
		}
	}
}

// The lowest byte first isn't a number's bytes.
func TestOpenLowestFirst(t *testing.T) {
	b := []byte("123456789")
	low := binary.LittleEndian.AppendUint32(bytes.Clone(b), crc32.ChecksumIEEE(b))
	if got, e := sum.Open(low); e != api.ErrSum || len(got) != 0 {
		t.Errorf("Open(%x): %x, %d", low, got, e)
	}
}

// Whatever bytes there are: those with their own sum at the end are opened, and no others.
func TestOpenRandom(t *testing.T) {
	r := rand.New(rand.NewSource(3))
	for range 5000 {
		b := random(r.Int63(), r.Intn(40))
		s := sealedOf(b)
		s[r.Intn(len(s))] += byte(r.Intn(2) * r.Intn(256))
		end := len(s) - 4
		fits := crc32.ChecksumIEEE(s[:end]) == binary.BigEndian.Uint32(s[end:])
		got, e := sum.Open(s)
		if fits && (e != api.OK || !bytes.Equal(got, s[:end])) || !fits && (e != api.ErrSum || len(got) != 0) {
			t.Errorf("Open(%x): %x, %d", s, got, e)
		}
	}
}

// P5.3

func TestSealedOpened(t *testing.T) {
	for _, b := range texts() {
		if got, e := sum.Open(sum.Sealed(b)); e != api.OK || !bytes.Equal(got, b) {
			t.Errorf("%x: %x, %d", b, got, e)
		}
	}
	twice := sum.Sealed(sum.Sealed([]byte("abc")))
	once, e := sum.Open(twice)
	if e != api.OK {
		t.Fatalf("sealed twice: %d", e)
	}
	if got, e := sum.Open(once); e != api.OK || string(got) != "abc" {
		t.Errorf("sealed twice, opened twice: %q, %d", got, e)
	}
}

// unopened tells of sealed bytes with these bits turned if they are opened.
func unopened(t *testing.T, s []byte, places ...int) {
	t.Helper()
	if got, e := sum.Open(turned(s, places...)); e != api.ErrSum || len(got) != 0 {
		t.Fatalf("%x, bits %v turned: %x, %d", s, places, got, e)
	}
}

// Each bit, and each two of them, of short texts.
func TestTurnedShort(t *testing.T) {
	for _, b := range [][]byte{nil, {0}, {255}, []byte("abc"), make([]byte, 8), bytes.Repeat([]byte{255}, 8), random(5, 20)} {
		s := sum.Sealed(b)
		for i := range 8 * len(s) {
			unopened(t, s, i)
			for n := range i {
				unopened(t, s, n, i)
			}
		}
	}
}

// Of long texts each bit alone, with the first, with the last, and with some other one.
func TestTurnedLong(t *testing.T) {
	r := rand.New(rand.NewSource(11))
	for _, b := range [][]byte{random(7, 996), random(8, 1000)} {
		s := sum.Sealed(b)
		last := 8*len(s) - 1
		for i := range last + 1 {
			unopened(t, s, i)
			for _, n := range []int{0, last, r.Intn(last + 1)} {
				if n != i {
					unopened(t, s, i, n)
				}
			}
		}
	}
}

// One bit is found in longer texts, too.
func TestTurnedLonger(t *testing.T) {
	s := sum.Sealed(random(9, 4000))
	for i := range 8 * len(s) {
		if i%61 == 0 || i < 64 || i >= 8*len(s)-64 {
			unopened(t, s, i)
		}
	}
}

// What a bit changes in a sum hangs on its place alone; where no two places of 1000 bytes change the same, and none nothing, no two bits are missed.
func TestTurnedAnyTwo(t *testing.T) {
	b := random(12, 1000)
	was, seen := sum.Of(b), map[uint32]int{0: -1}
	for at := range 32 {
		seen[1<<at] = 8*len(b) + at
	}
	for i := range 8 * len(b) {
		change := sum.Of(turned(b, i)) ^ was
		if n, there := seen[change]; there {
			t.Fatalf("bits %d and %d change the same", n, i)
		}
		seen[change] = i
	}
}

// The document's rules.

// guard is what stands in the spare room of what is handed in.
const guard = 0xE7

// guarded is b with spare room behind it; what comes with it tells whether any of it was changed.
func guarded(b []byte) ([]byte, func() bool) {
	room := append(bytes.Clone(b), bytes.Repeat([]byte{guard}, 64)...)
	was := bytes.Clone(room)
	return room[:len(b)], func() bool { return !bytes.Equal(room, was) }
}

// spoil a list, its spare room too.
func spoil(b []byte) {
	all := b[:cap(b)]
	for i := range all {
		all[i] ^= 0x5A
	}
}

// calls are those that take bytes; each answers bytes.
func calls() map[string]func([]byte) []byte {
	return map[string]func([]byte) []byte{
		"Of":     func(b []byte) []byte { return bytesOf(uint64(sum.Of(b)), 4) },
		"On":     func(b []byte) []byte { return bytesOf(uint64(sum.On(77, b)), 4) },
		"Get":    func(b []byte) []byte { return bytesOf(sum.Get(b), 8) },
		"Sealed": sum.Sealed,
		"Open": func(b []byte) []byte {
			got, e := sum.Open(b)
			if e != api.OK {
				return []byte{byte(e)}
			}
			return got
		},
	}
}

// ruled are what is handed in: texts, and what may be opened.
func ruled() [][]byte {
	l := texts()
	for _, b := range texts() {
		l = append(l, sealedOf(b))
	}
	return l
}

// What is handed in is not changed, its spare room neither, not even by who gets the answer.
func TestHandedIn(t *testing.T) {
	for name, call := range calls() {
		for _, b := range ruled() {
			in, changed := guarded(b)
			out := call(in)
			if changed() {
				t.Fatalf("%s changes %x", name, b)
			}
			spoil(out)
			if changed() {
				t.Fatalf("%s hands out %x", name, b)
			}
		}
	}
}

// What is answered stays as it is, whatever is done to what was handed in, or to another answer, and is the same again.
func TestAnswered(t *testing.T) {
	for name, call := range calls() {
		for _, b := range ruled() {
			in, _ := guarded(b)
			first, second := call(in), call(in)
			want := bytes.Clone(first)
			spoil(second)
			spoil(in)
			if !bytes.Equal(first, want) {
				t.Fatalf("%s keeps of %x", name, b)
			}
			if again := call(slices.Clip(bytes.Clone(b))); !bytes.Equal(again, want) {
				t.Fatalf("%s of %x: not the same again", name, b)
			}
		}
	}
}

func TestPutAnswered(t *testing.T) {
	for many := 1; many <= 8; many++ {
		first, second := sum.Put(0x0102030405060708, many), sum.Put(0x0102030405060708, many)
		spoil(second)
		if want := bytesOf(0x0102030405060708, many); !bytes.Equal(first, want) {
			t.Errorf("Put of %d bytes: %x, not %x", many, first, want)
		}
	}
}
