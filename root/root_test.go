package root_test

import (
	"bytes"
	"encoding/binary"
	"fmt"
	"hash/crc32"
	"math"
	"math/rand"
	"slices"
	"strings"
	"testing"

	"byway/api"
	"byway/page"
	"byway/root"
)

// What the tests hold the layer against: roots whose bytes are laid by hand, with the library's CRC-32.

// limit of generations: none may be this one.
const limit = 1 << 48

// sealed is b, and its sum behind it.
func sealed(b []byte) []byte {
	return binary.BigEndian.AppendUint32(bytes.Clone(b), crc32.ChecksumIEEE(b))
}

// pageOf are a page's bytes; each part is put in as it is, though it be none of a page, or not what the others tell.
func pageOf(kind, id int, gen uint64, many int, body []byte, size int) []byte {
	b := []byte{byte(kind), byte(id)}
	b = append(b, binary.BigEndian.AppendUint64(nil, gen)[2:]...)
	b = binary.BigEndian.AppendUint16(b, uint16(many))
	b = append(b, body...)
	return sealed(append(b, make([]byte, size-4-len(b))...))
}

// bodyOf are the bytes of these numbers.
func bodyOf(at []int) []byte {
	var b []byte
	for _, n := range at {
		b = binary.BigEndian.AppendUint16(b, uint16(n))
	}
	return b
}

// laid are the bytes of a root.
func laid(r api.Roots, size int) []byte {
	id := len(r.At) - 1
	if len(r.At) == 0 {
		id = 0
	}
	return pageOf(2, id, r.Gen, 2*len(r.At), bodyOf(r.At), size)
}

// mostOf a size, counted: of numbers, up to 64, as many as fit in with two bytes each, beside the 16 of a page.
func mostOf(size int) int {
	many := 0
	if size < 24 || size > 256 {
		return many
	}
	for many < 64 && 16+2*(many+1) <= size {
		many++
	}
	return many
}

// may a root be, as the chapter says it?
func may(r api.Roots, size int) bool {
	for _, n := range r.At {
		if n < 0 || n > 65535 {
			return false
		}
	}
	return 24 <= size && size <= 256 && r.Gen <= limit-1 && len(r.At) <= mostOf(size)
}

// same tells whether two roots are; a list is nil or empty alike.
func same(a, b api.Roots) bool {
	return a.Gen == b.Gen && slices.Equal(a.At, b.At)
}

// inForm tells what bytes are whose sum is right: those of a root just if they are what is laid of it.
func inForm(b []byte) (api.Roots, bool) {
	many := int(b[8])<<8 | int(b[9])
	if many > len(b)-16 || many > 128 {
		return api.Roots{}, false
	}
	r := api.Roots{Gen: binary.BigEndian.Uint64(b) % limit}
	for at := 10; at+1 < 10+many; at += 2 {
		r.At = append(r.At, int(binary.BigEndian.Uint16(b[at:])))
	}
	if !bytes.Equal(laid(r, len(b)), b) {
		return api.Roots{}, false
	}
	return r, true
}

// reading is what Read should tell of bytes.
func reading(b []byte) (api.Roots, api.Errno) {
	if len(b) < 24 || len(b) > 256 {
		return api.Roots{}, api.ErrLong
	}
	if bytes.Equal(b, ones(len(b))) {
		return api.Roots{}, api.ErrNone
	}
	if !bytes.Equal(sealed(b[:len(b)-4]), b) {
		return api.Roots{}, api.ErrSum
	}
	r, ok := inForm(b)
	if !ok {
		return api.Roots{}, api.ErrForm
	}
	return r, api.OK
}

// choosing is what Newest should tell: it goes through all roots from behind, and takes each one that is newer than what it has.
func choosing(l [][]byte) (int, api.Roots, api.Errno) {
	var roots []int
	for n, b := range l {
		if _, e := reading(b); e == api.OK {
			roots = append(roots, n)
		}
	}
	if len(roots) == 0 {
		if all := bytes.Join(l, nil); !bytes.Equal(all, ones(len(all))) {
			return 0, api.Roots{}, api.ErrForm
		}
		return 0, api.Roots{}, api.ErrNone
	}
	at := roots[len(roots)-1]
	best, _ := reading(l[at])
	for _, n := range slices.Backward(roots) {
		if r, _ := reading(l[n]); r.Gen > best.Gen {
			at, best = n, r
		}
	}
	return at, best, api.OK
}

// hold that Read tells this of bytes.
func hold(t *testing.T, what string, b []byte, want api.Roots, wantErr api.Errno) {
	t.Helper()
	if r, e := root.Read(b); e != wantErr || !same(r, want) {
		t.Errorf("%s: Read(%x): %v, %d; not %v, %d", what, b, r, e, want, wantErr)
	}
}

// refused holds that Read tells this error of bytes, and nothing else.
func refused(t *testing.T, what string, b []byte, want api.Errno) {
	t.Helper()
	hold(t, what, b, api.Roots{}, want)
}

// chosen holds that Newest tells this of a list.
func chosen(t *testing.T, what string, l [][]byte, at int, want api.Roots, wantErr api.Errno) {
	t.Helper()
	if n, r, e := root.Newest(l); n != at || !same(r, want) || e != wantErr {
		t.Errorf("%s: Newest(%x): %d, %v, %d; not %d, %v, %d", what, l, n, r, e, at, want, wantErr)
	}
}

// lacking holds that Newest tells this error of a list, and nothing else.
func lacking(t *testing.T, what string, l [][]byte, want api.Errno) {
	t.Helper()
	chosen(t, what, l, 0, api.Roots{}, want)
}

// Inputs.

// ones are so many bytes that are erased.
func ones(many int) []byte {
	return bytes.Repeat([]byte{255}, many)
}

// random are so many bytes, the same at each run.
func random(seed int64, many int) []byte {
	b := make([]byte, many)
	rand.New(rand.NewSource(seed)).Read(b)
	return b
}

// turned is b with the bits at these places turned.
func turned(b []byte, places ...int) []byte {
	t := bytes.Clone(b)
	for _, at := range places {
		t[at/8] ^= 0x80 >> (at % 8)
	}
	return t
}

// numbers are so many of a root, the same at each run.
func numbers(seed int64, many int) []int {
	r := rand.New(rand.NewSource(seed))
	var l []int
	for range many {
		l = append(l, r.Intn(1<<16))
	}
	return l
}

// sizes of pages: the least and the greatest, those ahead of which a root has a number less, and that from which on it has no more.
var sizes = []int{24, 25, 26, 27, 32, 40, 100, 142, 143, 144, 145, 146, 255, 256}

// wrongSizes are none of a page; some would be one by their last bits.
var wrongSizes = []int{0, 1, 8, 10, 16, 17, 18, 22, 23, 257, 258, 300, 512, 1 << 16, 1<<16 + 24, 1<<32 + 24, 1<<32 + 256, -1, -16, -24, -232, -256, -1 << 32, math.MinInt, math.MinInt + 24, math.MaxInt - 1, math.MaxInt}

// gens of a root: the least, the greatest, and each byte's edge.
func gens() []uint64 {
	l := []uint64{0, 1, 0x010203040506, 0xF0E0D0C0B0A0, limit - 2, limit - 1}
	for bits := 8; bits < 48; bits += 8 {
		l = append(l, 1<<bits-1, 1<<bits, 1<<bits+1)
	}
	return l
}

// rightRoots are roots for this size, at each edge.
func rightRoots(size int) []api.Roots {
	l := []api.Roots{{}, {At: []int{}}, {Gen: limit - 1}, {At: []int{0}}, {At: []int{65535}}}
	for many := range mostOf(size) + 1 {
		gen := uint64(many) << 40
		l = append(l, api.Roots{Gen: gen, At: numbers(int64(many), many)},
			api.Roots{Gen: gen, At: slices.Repeat([]int{0}, many)},
			api.Roots{Gen: gen, At: slices.Repeat([]int{65535}, many)})
	}
	for _, gen := range gens() {
		l = append(l, api.Roots{Gen: gen}, api.Roots{Gen: gen, At: []int{258, 0, 65535}})
	}
	for _, n := range []int{0, 1, 127, 128, 255, 256, 257, 258, 32767, 32768, 65279, 65280, 65534, 65535} {
		l = append(l, api.Roots{Gen: 9, At: []int{n}}, api.Roots{Gen: 9, At: []int{n, 3, n}})
	}
	return l
}

// wrongRoots may not be, for this size, each for one cause; some would be a root by their last bits.
func wrongRoots(size int) map[string]api.Roots {
	out := map[string]api.Roots{}
	most := mostOf(size)
	for _, gen := range []uint64{limit, limit + 1, 2*limit - 1, 1 << 56, 1 << 63, 1<<63 + 9, math.MaxUint64 - 1, math.MaxUint64} {
		out[fmt.Sprint("Gen ", gen)] = api.Roots{Gen: gen, At: []int{1, 2}}
		out[fmt.Sprint("no numbers, Gen ", gen)] = api.Roots{Gen: gen}
	}
	for _, n := range []int{-1, -2, -255, -256, -65535, -65536, -1 << 32, math.MinInt, math.MinInt + 5, 65536, 65537, 1 << 17, 1 << 24, 1 << 31, 1 << 32, 1<<32 + 5, math.MaxInt} {
		for at := range most {
			l := numbers(3, most)
			l[at] = n
			out[fmt.Sprintf("%d at %d", n, at)] = api.Roots{Gen: 9, At: l}
		}
		out[fmt.Sprint("alone ", n)] = api.Roots{Gen: 9, At: []int{n}}
	}
	for _, many := range []int{most + 1, most + 2, 64, 65, 66, 127, 128, 129, 256, 257, 258, 1 << 15, 1<<15 + 1, 1 << 16, 1<<16 + 1, 1 << 20} {
		if many > most {
			out[fmt.Sprintf("%d numbers", many)] = api.Roots{Gen: 9, At: make([]int, many)}
		}
	}
	return out
}

// otherPages are whole, of a size, and none is a root's, each for one cause.
func otherPages(size int) map[string][]byte {
	out, most := map[string][]byte{}, mostOf(size)
	for many := range most + 1 {
		body := bodyOf(numbers(5, many))
		out[fmt.Sprintf("of the kind Data, else a root of %d", many)] = pageOf(1, max(0, many-1), 9, 2*many, body, size)
		for id := range 64 {
			if id != max(0, many-1) {
				out[fmt.Sprintf("%d numbers, Id %d", many, id)] = pageOf(2, id, 9, 2*many, body, size)
			}
		}
	}
	for many := 1; many <= size-16; many += 2 {
		for id := max(0, many/2-2); id <= min(63, many/2+1); id++ {
			out[fmt.Sprintf("%d bytes, Id %d", many, id)] = pageOf(2, id, 9, many, random(6, many), size)
		}
	}
	for many := 130; many <= size-16; many += 2 {
		for _, id := range []int{0, many/2 - 65, 62, 63} {
			out[fmt.Sprintf("%d bytes, Id %d", many, id)] = pageOf(2, id, 9, many, random(6, many), size)
		}
	}
	return out
}

// noPages have the right sum, and are no page's at all, each for one cause.
func noPages(size int) map[string][]byte {
	out, room := map[string][]byte{}, size-16
	for _, kind := range []int{0, 3, 4, 128, 254, 255} {
		out[fmt.Sprint("Kind ", kind)] = pageOf(kind, 0, 9, 2, []byte{1, 2}, size)
	}
	for n := 1; n <= 2; n++ {
		out[fmt.Sprintf("%d bytes more than have room", n)] = pageOf(2, (room+n)/2-1, 9, room+n, random(7, room+n), size)
	}
	for _, id := range []int{64, 65, 128, 255} {
		out[fmt.Sprintf("Id %d", id)] = pageOf(2, id, 9, min(2*id+2, room), random(7, min(2*id+2, room)), size)
	}
	for many := range mostOf(size) {
		out[fmt.Sprintf("more behind %d", many)] = pageOf(2, max(0, many-1), 9, 2*many, ones(2*many+1), size)
	}
	return out
}

// P10.1

func TestMost(t *testing.T) {
	for size := -300; size < 1000; size++ {
		if got, want := root.Most(size), mostOf(size); got != want {
			t.Errorf("Most(%d): %d, not %d", size, got, want)
		}
	}
	for _, size := range wrongSizes {
		if got := root.Most(size); got != 0 {
			t.Errorf("Most(%d): %d", size, got)
		}
	}
	for size, want := range map[int]int{23: 0, 24: 4, 25: 4, 26: 5, 142: 63, 143: 63, 144: 64, 145: 64, 256: 64, 257: 0} {
		if got := root.Most(size); got != want {
			t.Errorf("Most(%d): %d, not %d", size, got, want)
		}
	}
}

func TestMay(t *testing.T) {
	for _, size := range sizes {
		for _, r := range rightRoots(size) {
			if !root.May(r, size) {
				t.Errorf("May(%v, %d): not", r, size)
			}
		}
		for what, r := range wrongRoots(size) {
			if root.May(r, size) {
				t.Errorf("%s: in %d bytes", what, size)
			}
		}
	}
}

// Of sizes that can't be none may, though it have no numbers.
func TestMaySize(t *testing.T) {
	for size := -300; size < 1000; size++ {
		for _, at := range [][]int{nil, {}, {7}, {1, 2, 3, 4}} {
			r := api.Roots{Gen: 2, At: at}
			if got, want := root.May(r, size), 24 <= size && size <= 256; got != want {
				t.Errorf("May(%v, %d): %v", r, size, got)
			}
		}
	}
	for _, size := range wrongSizes {
		for _, r := range rightRoots(256) {
			if root.May(r, size) {
				t.Errorf("May(%v, %d)", r, size)
			}
		}
	}
}

// Each number of numbers in each size, up to one more than 64.
func TestMayMany(t *testing.T) {
	for size := 20; size <= 260; size++ {
		for many := range 70 {
			r := api.Roots{At: make([]int, many)}
			want := 24 <= size && size <= 256 && many <= 64 && 2*many <= size-16
			if got := root.May(r, size); got != want {
				t.Errorf("%d numbers in %d bytes: %v", many, size, got)
			}
			if want != (24 <= size && size <= 256 && many <= root.Most(size)) {
				t.Errorf("%d numbers in %d bytes: Most says %d", many, size, root.Most(size))
			}
		}
	}
}

func TestMayNumber(t *testing.T) {
	for n := -70000; n < 140000; n++ {
		if got, want := root.May(api.Roots{At: []int{n}}, 24), 0 <= n && n <= 65535; got != want {
			t.Fatalf("number %d: %v", n, got)
		}
	}
}

// Roots by all their bytes, the sums too.
func TestPutBytes(t *testing.T) {
	for _, c := range []struct {
		r    api.Roots
		size int
		want []byte
	}{
		{api.Roots{Gen: 0x010203040506, At: []int{0, 65535, 258}}, 24,
			[]byte{2, 2, 1, 2, 3, 4, 5, 6, 0, 6, 0, 0, 255, 255, 1, 2, 0, 0, 0, 0}},
		{api.Roots{}, 24,
			[]byte{2, 0, 0, 0, 0, 0, 0, 0, 0, 0, 0, 0, 0, 0, 0, 0, 0, 0, 0, 0}},
		{api.Roots{Gen: 5, At: []int{0}}, 24,
			[]byte{2, 0, 0, 0, 0, 0, 0, 5, 0, 2, 0, 0, 0, 0, 0, 0, 0, 0, 0, 0}},
		{api.Roots{Gen: limit - 1, At: []int{1, 256, 65280, 255}}, 25,
			[]byte{2, 3, 255, 255, 255, 255, 255, 255, 0, 8, 0, 1, 1, 0, 255, 0, 0, 255, 0, 0, 0}},
	} {
		if got, e := root.Put(c.r, c.size); e != api.OK || !bytes.Equal(got, sealed(c.want)) {
			t.Errorf("Put(%v, %d): %x, %d; not %x", c.r, c.size, got, e, sealed(c.want))
		}
	}
}

func TestPut(t *testing.T) {
	for size := 24; size <= 256; size++ {
		for _, r := range rightRoots(size) {
			got, e := root.Put(r, size)
			if want := laid(r, size); e != api.OK || !bytes.Equal(got, want) {
				t.Fatalf("Put(%v, %d): %x, %d; not %x", r, size, got, e, want)
			}
		}
	}
}

// Put is a page: of the kind Root, and with the Id, the Gen and the Body that the chapter says.
func TestPutIsPage(t *testing.T) {
	for _, size := range sizes {
		for _, r := range rightRoots(size) {
			b, _ := root.Put(r, size)
			p, e := page.Read(b)
			many := len(r.At)
			if e != api.OK || p.Kind != api.Root || p.Gen != r.Gen || len(p.Body) != 2*many || p.Id != many-1 && (p.Id != 0 || many != 0) {
				t.Fatalf("Put(%v, %d): the page %v, %d", r, size, p, e)
			}
			for at, n := range r.At {
				if 256*int(p.Body[2*at])+int(p.Body[2*at+1]) != n {
					t.Fatalf("Put(%v, %d): the Body %x", r, size, p.Body)
				}
			}
		}
	}
}

// refusedPut holds that a root isn't put.
func refusedPut(t *testing.T, what string, r api.Roots, size int) {
	t.Helper()
	if got, e := root.Put(r, size); e != api.ErrArg || len(got) != 0 {
		t.Errorf("%s: Put in %d bytes: %x, %d", what, size, got, e)
	}
}

func TestPutErrArg(t *testing.T) {
	for _, size := range sizes {
		for what, r := range wrongRoots(size) {
			refusedPut(t, what, r, size)
		}
	}
	for _, size := range wrongSizes {
		for _, r := range rightRoots(24) {
			refusedPut(t, "a root", r, size)
		}
		for what, r := range wrongRoots(24) {
			refusedPut(t, what, r, size)
		}
	}
}

// What may be is put, and nothing else.
func TestPutAsMay(t *testing.T) {
	r := rand.New(rand.NewSource(7))
	const right, wrong = 1, 0
	seen := map[int]int{}
	for range 30000 {
		l := numbers(r.Int63(), r.Intn(70))
		if len(l) > 0 && r.Intn(4) == 0 {
			l[r.Intn(len(l))] = r.Intn(1<<18) - 1<<16
		}
		in := api.Roots{Gen: r.Uint64() >> (14 + r.Intn(8)), At: l}
		size := 10 + r.Intn(260)
		got, e := root.Put(in, size)
		if root.May(in, size) != may(in, size) {
			t.Fatalf("May(%v, %d): %v", in, size, !may(in, size))
		}
		if may(in, size) {
			seen[right]++
			if e != api.OK || !bytes.Equal(got, laid(in, size)) {
				t.Fatalf("Put(%v, %d): %x, %d", in, size, got, e)
			}
			continue
		}
		seen[wrong]++
		refusedPut(t, fmt.Sprint(in), in, size)
	}
	if seen[right] < 5000 || seen[wrong] < 5000 {
		t.Errorf("not both: %v", seen)
	}
}

func TestRead(t *testing.T) {
	for _, size := range sizes {
		for _, r := range rightRoots(size) {
			hold(t, "laid", laid(r, size), r, api.OK)
		}
	}
}

// Each place tells its part alone.
func TestReadParts(t *testing.T) {
	b := sealed([]byte{2, 2, 1, 2, 3, 4, 5, 6, 0, 6, 0, 0, 255, 255, 1, 2, 0, 0, 0, 0})
	hold(t, "three", b, api.Roots{Gen: 0x010203040506, At: []int{0, 65535, 258}}, api.OK)
	b = sealed([]byte{2, 0, 0, 0, 0, 0, 0, 0, 0, 0, 0, 0, 0, 0, 0, 0, 0, 0, 0, 0})
	hold(t, "no numbers", b, api.Roots{}, api.OK)
	b = sealed([]byte{2, 0, 255, 255, 255, 255, 255, 255, 0, 2, 0, 0, 0, 0, 0, 0, 0, 0, 0, 0})
	hold(t, "one, of 0", b, api.Roots{Gen: limit - 1, At: []int{0}}, api.OK)
	b = sealed([]byte{2, 3, 0, 0, 0, 0, 1, 0, 0, 8, 0, 1, 1, 0, 255, 0, 0, 255, 0, 0})
	hold(t, "a full one", b, api.Roots{Gen: 256, At: []int{1, 256, 65280, 255}}, api.OK)
}

// Each number that a root may have.
func TestReadNumber(t *testing.T) {
	for n := range 1 << 16 {
		hold(t, "one", pageOf(2, 0, 7, 2, []byte{byte(n >> 8), byte(n)}, 24), api.Roots{Gen: 7, At: []int{n}}, api.OK)
	}
}

// Bytes that are all 255: as many as a page may have, and fewer and more.
func TestReadErrNone(t *testing.T) {
	for many := range 600 {
		if 24 <= many && many <= 256 {
			refused(t, "blank", ones(many), api.ErrNone)
		} else {
			refused(t, "blank", ones(many), api.ErrLong)
		}
	}
	refused(t, "nil", nil, api.ErrLong)
}

// All but one are 255: of the least size each other byte at each place.
func TestReadAlmostBlank(t *testing.T) {
	for at := range 24 {
		for x := range 255 {
			b := ones(24)
			b[at] = byte(x)
			refused(t, "almost blank", b, api.ErrSum)
		}
	}
	for _, many := range sizes {
		for at := range many {
			refused(t, "almost blank", turned(ones(many), 8*at+at%8), api.ErrSum)
		}
	}
}

// Too few bytes and too many, whatever they are: those of a root, of another page, of no page, blank ones, and all these with another sum.
func TestReadErrLong(t *testing.T) {
	for _, many := range []int{0, 1, 2, 3, 4, 10, 13, 14, 15, 16, 17, 20, 22, 23, 257, 258, 259, 272, 300, 511, 512, 1000, 1 << 16, 1<<16 + 24} {
		refused(t, "noughts", make([]byte, many), api.ErrLong)
		refused(t, "random", random(3, many), api.ErrLong)
		if many >= 20 {
			for _, b := range [][]byte{
				laid(api.Roots{Gen: 3}, many),
				laid(api.Roots{Gen: 3, At: []int{1, 2}}, many),
				pageOf(1, 2, 3, 0, nil, many),
				pageOf(2, 1, 3, 1, []byte{4}, many),
				pageOf(3, 0, 3, 0, nil, many),
			} {
				refused(t, "laid", b, api.ErrLong)
				refused(t, "laid, with another sum", turned(b, 8*many-1), api.ErrLong)
			}
		}
	}
}

// A root with bytes taken away, and bytes behind it.
func TestReadCut(t *testing.T) {
	for _, size := range sizes {
		b := laid(api.Roots{Gen: 1 << 40, At: numbers(8, mostOf(size))}, size)
		for many := range b {
			want := api.ErrSum
			if many < 24 {
				want = api.ErrLong
			}
			refused(t, "cut behind", b[:many], want)
		}
		for _, more := range [][]byte{{0}, {255}, make([]byte, 4), ones(8), b} {
			want := api.ErrSum
			if size+len(more) > 256 {
				want = api.ErrLong
			}
			refused(t, "more behind", slices.Concat(b, more), want)
		}
	}
}

// Bytes whose sum isn't that: of roots, of other pages, and of no pages.
func TestReadErrSum(t *testing.T) {
	for _, size := range sizes {
		for _, r := range rightRoots(size) {
			b := laid(r, size)
			for _, at := range []int{0, 8, 63, 79, 80, 8*size - 33, 8*size - 32, 8*size - 1} {
				refused(t, "turned", turned(b, at), api.ErrSum)
			}
		}
		for what, b := range otherPages(size) {
			refused(t, what, turned(b, 8*size-1), api.ErrSum)
		}
		for what, b := range noPages(size) {
			refused(t, what, turned(b, 8*size-32), api.ErrSum)
		}
		refused(t, "noughts", make([]byte, size), api.ErrSum)
		refused(t, "random", random(6, size), api.ErrSum)
	}
}

func TestReadErrForm(t *testing.T) {
	for _, size := range sizes {
		for what, b := range otherPages(size) {
			if p, e := page.Read(b); e != api.OK || p.Kind == api.Empty {
				t.Errorf("%s: no page: %v, %d", what, p, e)
			}
			refused(t, what, b, api.ErrForm)
		}
		for what, b := range noPages(size) {
			if _, e := page.Read(b); e != api.ErrForm {
				t.Errorf("%s: page.Read tells %d", what, e)
			}
			refused(t, what, b, api.ErrForm)
		}
	}
}

// Each Id beside each number of bytes, of both kinds, in some sizes: a root's is one of them.
func TestReadIdAndMany(t *testing.T) {
	for _, size := range []int{24, 25, 144, 146, 256} {
		for many := range size - 15 {
			body, roots := random(11, many), 0
			for id := range 64 {
				refused(t, "Data", pageOf(1, id, 5, many, body, size), api.ErrForm)
				b := pageOf(2, id, 5, many, body, size)
				want, e := reading(b)
				hold(t, "Root", b, want, e)
				if e == api.OK {
					roots++
				}
			}
			want := 0
			if many%2 == 0 && many <= 128 {
				want = 1
			}
			if roots != want {
				t.Errorf("%d bytes in %d: a root's with %d Ids", many, size, roots)
			}
		}
	}
}

// Whatever bytes there are: what Read tells is what they are, by hand.
func TestReadRandom(t *testing.T) {
	r := rand.New(rand.NewSource(17))
	seen := map[api.Errno]int{}
	for range 60000 {
		b := anyPage(r, 24+r.Intn(24))
		want, wantErr := reading(b)
		seen[wantErr]++
		hold(t, "random", b, want, wantErr)
	}
	for _, e := range []api.Errno{api.OK, api.ErrNone, api.ErrLong, api.ErrSum, api.ErrForm} {
		if seen[e] < 1000 {
			t.Errorf("error %d just %d times", e, seen[e])
		}
	}
}

// anyPage is what may stand in a page of a size: half of the time a root, else nothing, or something else, of few generations.
func anyPage(r *rand.Rand, size int) []byte {
	gen := uint64(r.Intn(5))
	b := laid(api.Roots{Gen: gen, At: numbers(r.Int63(), r.Intn(mostOf(size)+1))}, size)
	switch r.Intn(10) {
	case 0:
		return ones(size)
	case 1:
		return turned(b, r.Intn(8*size))
	case 2:
		return b[:r.Intn(size)]
	case 3:
		b[r.Intn(10)] = byte(r.Intn(256))
		return sealed(b[:size-4])
	case 4:
		many := r.Intn(size - 15)
		return pageOf(1+r.Intn(2), many/2-min(many/2, r.Intn(2)), gen, many, random(r.Int63(), many), size)
	}
	return b
}

// P10.2

// ofGen is a root of this Gen, of 24 bytes, or of another size.
func ofGen(gen uint64) []byte {
	r := api.Roots{Gen: gen, At: numbers(int64(gen), int(gen%5))}
	return laid(r, []int{24, 256, 40, 25}[gen%4])
}

// Roots of Gen 3 and 5, and a torn one: that of 5.
func TestExample(t *testing.T) {
	three, fifth := api.Roots{Gen: 3, At: []int{1, 2}}, api.Roots{Gen: 5, At: []int{4, 0, 7}}
	torn := laid(api.Roots{Gen: 6, At: []int{9, 9, 9}}, 24)
	copy(torn[12:], ones(12))
	l := [][]byte{laid(three, 24), laid(fifth, 24), torn}
	chosen(t, "the example", l, 1, fifth, api.OK)
	chosen(t, "the other way round", [][]byte{l[2], l[1], l[0]}, 1, fifth, api.OK)
	chosen(t, "the torn one ahead", [][]byte{l[2], l[0], l[1]}, 2, fifth, api.OK)
	chosen(t, "the torn one between", [][]byte{l[1], l[2], l[0]}, 0, fifth, api.OK)
	chosen(t, "without that of 5", [][]byte{l[0], l[2]}, 0, three, api.OK)
}

// One root alone, of each kind that may be; among what is none it is found at each place.
func TestNewestAlone(t *testing.T) {
	for _, size := range sizes {
		others := [][]byte{ones(size), turned(laid(api.Roots{Gen: limit - 1}, size), 100), pageOf(1, 0, limit-1, 2, []byte{1, 2}, size), nil, make([]byte, size), ones(7)}
		for _, r := range rightRoots(size) {
			chosen(t, "alone", [][]byte{laid(r, size)}, 0, r, api.OK)
			for at := range len(others) + 1 {
				chosen(t, "among others", slices.Insert(slices.Clone(others), at, laid(r, size)), at, r, api.OK)
			}
		}
	}
}

// Each order of five roots of unlike Gens, with something else put in at each place: the newest is found wherever it is, as the first one and as the last one, too.
func TestNewestOrders(t *testing.T) {
	others := [][]byte{ones(24), turned(ofGen(9), 9), pageOf(1, 0, 99, 0, nil, 24), pageOf(2, 1, 99, 0, nil, 24), nil}
	var put func(l [][]byte, left []uint64)
	put = func(l [][]byte, left []uint64) {
		if len(left) == 0 {
			at, want, _ := choosing(l)
			if want.Gen != 8 {
				t.Fatalf("the reference takes %v", want)
			}
			chosen(t, "an order", l, at, want, api.OK)
			for n := range len(l) + 1 {
				with := slices.Insert(slices.Clone(l), n, others[n%len(others)])
				if n <= at {
					chosen(t, "ahead", with, at+1, want, api.OK)
				} else {
					chosen(t, "behind", with, at, want, api.OK)
				}
			}
		}
		for n, gen := range left {
			put(append(slices.Clip(l), ofGen(gen)), slices.Delete(slices.Clone(left), n, n+1))
		}
	}
	put(nil, []uint64{0, 1, 3, 7, 8})
}

// Of the same Gen the last one, though it be another root.
func TestNewestSameGen(t *testing.T) {
	for _, gen := range gens() {
		first, last := api.Roots{Gen: gen, At: []int{1, 2, 3}}, api.Roots{Gen: gen, At: []int{4}}
		none := api.Roots{Gen: gen}
		chosen(t, "two", [][]byte{laid(first, 24), laid(last, 40)}, 1, last, api.OK)
		chosen(t, "two, the other way round", [][]byte{laid(last, 40), laid(first, 24)}, 1, first, api.OK)
		chosen(t, "three", [][]byte{laid(first, 24), laid(last, 24), laid(none, 24)}, 2, none, api.OK)
		chosen(t, "three the same", [][]byte{laid(last, 24), laid(last, 24), laid(last, 24)}, 2, last, api.OK)
		chosen(t, "with others behind", [][]byte{laid(first, 24), ones(24), laid(last, 24), ones(24), nil}, 2, last, api.OK)
		if gen > 0 {
			older := api.Roots{Gen: gen - 1, At: []int{9}}
			chosen(t, "an older one behind", [][]byte{laid(first, 24), laid(last, 24), laid(older, 24)}, 1, last, api.OK)
			chosen(t, "an older one between", [][]byte{laid(first, 24), laid(older, 24), laid(last, 24)}, 2, last, api.OK)
		}
	}
}

// Of two Gens the greater one, whichever place it has.
func TestNewestGens(t *testing.T) {
	l := gens()
	for _, a := range l {
		for _, b := range l {
			if a < b {
				older, newer := api.Roots{Gen: a, At: []int{1}}, api.Roots{Gen: b, At: []int{2}}
				chosen(t, "behind", [][]byte{laid(older, 24), laid(newer, 24)}, 1, newer, api.OK)
				chosen(t, "ahead", [][]byte{laid(newer, 24), laid(older, 24)}, 0, newer, api.OK)
			}
		}
	}
}

func TestNewestErrNone(t *testing.T) {
	lacking(t, "nil", nil, api.ErrNone)
	lacking(t, "nothing", [][]byte{}, api.ErrNone)
	for _, size := range sizes {
		for many := 1; many <= 20; many++ {
			lacking(t, "blank", slices.Repeat([][]byte{ones(size)}, many), api.ErrNone)
		}
	}
	lacking(t, "blank ones of unlike sizes", [][]byte{ones(24), ones(256), ones(40)}, api.ErrNone)
}

// What has but bytes of 255 is blank, though it has more or fewer of them than a page, or none.
func TestNewestBlankOfOtherSizes(t *testing.T) {
	for many := range 600 {
		lacking(t, "alone", [][]byte{ones(many)}, api.ErrNone)
		lacking(t, "among blank pages", [][]byte{ones(24), ones(many), ones(256)}, api.ErrNone)
	}
	lacking(t, "nil, and blank pages", [][]byte{nil, ones(24), nil}, api.ErrNone)
}

// One that isn't blank among blank pages, at each place, and no root.
func TestNewestErrForm(t *testing.T) {
	for _, size := range []int{24, 25, 144, 256} {
		others := map[string][]byte{
			"torn":    turned(laid(api.Roots{Gen: 3, At: []int{1}}, size), 40),
			"noughts": make([]byte, size),
			"a bit":   turned(ones(size), 77),
			"short":   {0},
			"long":    make([]byte, 257),
			"cut":     laid(api.Roots{Gen: 3}, size)[:size-1],
		}
		for what, b := range otherPages(size) {
			others[what] = b
		}
		for what, b := range noPages(size) {
			others[what] = b
		}
		for what, b := range others {
			lacking(t, what, [][]byte{b}, api.ErrForm)
			for at := range 3 {
				lacking(t, what, slices.Insert([][]byte{ones(size), ones(size)}, at, b), api.ErrForm)
			}
		}
	}
}

// Each place of a page that is all 255 but for one byte.
func TestNewestAlmostBlank(t *testing.T) {
	for _, size := range sizes {
		for at := range size {
			lacking(t, "almost blank", [][]byte{ones(size), turned(ones(size), 8*at+at%8)}, api.ErrForm)
		}
	}
}

// Whatever lists there are: what Newest tells is what the reference finds from behind.
func TestNewestRandom(t *testing.T) {
	r := rand.New(rand.NewSource(27))
	seen := map[api.Errno]int{}
	for range 20000 {
		var l [][]byte
		for range r.Intn(8) {
			l = append(l, anyPage(r, 24+r.Intn(8)))
		}
		if r.Intn(3) == 0 {
			l = slices.DeleteFunc(l, func(b []byte) bool {
				_, e := root.Read(b)
				return e == api.OK || r.Intn(2) == 0 && e != api.ErrNone
			})
		}
		at, want, wantErr := choosing(l)
		seen[wantErr]++
		chosen(t, "random", l, at, want, wantErr)
	}
	for _, e := range []api.Errno{api.OK, api.ErrNone, api.ErrForm} {
		if seen[e] < 1000 {
			t.Errorf("error %d just %d times", e, seen[e])
		}
	}
}

// As many as a chip has pages, and more.
func TestNewestMany(t *testing.T) {
	for _, many := range []int{16, 512, 5000} {
		var l [][]byte
		for n := range many {
			l = append(l, laid(api.Roots{Gen: uint64(n * 7 % many)}, 24))
		}
		at, want, e := choosing(l)
		chosen(t, "many", l, at, want, e)
	}
}

// P10.3

// A root is read as it was, whatever may be, in each size.
func TestPutRead(t *testing.T) {
	for size := 24; size <= 256; size++ {
		for _, r := range rightRoots(size) {
			b, e := root.Put(r, size)
			if e != api.OK {
				t.Fatalf("Put(%v, %d): %d", r, size, e)
			}
			hold(t, "put", b, r, api.OK)
			chosen(t, "put", [][]byte{b}, 0, r, api.OK)
		}
	}
}

// What is read is put as the same bytes again, and in another size it is the same root.
func TestReadPut(t *testing.T) {
	for _, size := range sizes {
		for _, r := range rightRoots(size) {
			b := laid(r, size)
			back, _ := root.Read(b)
			if again, e := root.Put(back, size); e != api.OK || !bytes.Equal(again, b) {
				t.Errorf("Put(%v, %d): %x, %d; not %x", back, size, again, e, b)
			}
			for _, other := range sizes {
				if len(r.At) <= root.Most(other) {
					moved, _ := root.Put(back, other)
					hold(t, fmt.Sprintf("from %d to %d", size, other), moved, r, api.OK)
				}
			}
		}
	}
}

// One more that is newer is the newest, wherever it is put in, and of the same Gen it is if it is put behind the newest.
func TestOneMore(t *testing.T) {
	r := rand.New(rand.NewSource(37))
	for range 5000 {
		var l [][]byte
		for range r.Intn(7) {
			l = append(l, anyPage(r, 24+r.Intn(8)))
		}
		at, was, e := root.Newest(l)
		more := api.Roots{Gen: was.Gen + 1, At: numbers(r.Int63(), r.Intn(5))}
		b, _ := root.Put(more, 24)
		for n := range len(l) + 1 {
			chosen(t, "one more", slices.Insert(slices.Clone(l), n, b), n, more, api.OK)
		}
		if e != api.OK {
			continue
		}
		more.Gen = was.Gen
		b, _ = root.Put(more, 24)
		for n := range len(l) + 1 {
			if n > at {
				chosen(t, "of the same Gen, behind", slices.Insert(slices.Clone(l), n, b), n, more, api.OK)
			} else {
				chosen(t, "of the same Gen, ahead", slices.Insert(slices.Clone(l), n, b), at+1, was, api.OK)
			}
		}
	}
}

// Two places that are written by turns: what was put last is the newest, and where it is torn at any byte the one ahead of it is.
func TestByTurns(t *testing.T) {
	l := [][]byte{ones(32), ones(32)}
	was := api.Roots{}
	lacking(t, "nothing yet", l, api.ErrNone)
	for n := range 40 {
		r := api.Roots{Gen: uint64(n + 1), At: numbers(int64(n), n%9)}
		b, _ := root.Put(r, 32)
		for cut := range b {
			torn := append(bytes.Clone(b[:cut]), ones(len(b)-cut)...)
			l[n%2] = torn
			switch {
			case bytes.Equal(torn, b):
				chosen(t, "whole as it is", l, n%2, r, api.OK)
			case n > 0:
				chosen(t, "torn", l, (n+1)%2, was, api.OK)
			case cut == 0:
				lacking(t, "the first one, not begun", l, api.ErrNone)
			default:
				lacking(t, "the first one, torn", l, api.ErrForm)
			}
		}
		l[n%2], was = b, r
		chosen(t, "put", l, n%2, r, api.OK)
	}
}

// A root with a bit turned, or two, is none.
func TestTurned(t *testing.T) {
	r := api.Roots{Gen: 0x010203040506, At: []int{7, 0, 65535}}
	b, _ := root.Put(r, 24)
	older, _ := root.Put(api.Roots{Gen: 1}, 24)
	for i := range 8 * len(b) {
		refused(t, "a bit turned", turned(b, i), api.ErrSum)
		chosen(t, "a bit turned", [][]byte{turned(b, i), older}, 1, api.Roots{Gen: 1}, api.OK)
		for n := range i {
			refused(t, "two bits turned", turned(b, n, i), api.ErrSum)
		}
	}
}

// The document's rules.

// guard is what stands in the spare room of bytes that are handed in.
const guard = 0xE7

// guardedBytes is b with spare room behind it; what comes with it tells whether any of it was changed.
func guardedBytes(b []byte) ([]byte, func() bool) {
	room := append(bytes.Clone(b), bytes.Repeat([]byte{guard}, 300)...)
	was := bytes.Clone(room)
	return room[:len(b)], func() bool { return !bytes.Equal(room, was) }
}

// guardedNumbers is l with spare room behind it, where numbers stand that may not be.
func guardedNumbers(l []int) ([]int, func() bool) {
	room := append(slices.Clone(l), slices.Repeat([]int{-guard}, 100)...)
	was := slices.Clone(room)
	return room[:len(l)], func() bool { return !slices.Equal(room, was) }
}

// guardedList is l, with spare room behind it, where a newer root stands, and behind each of its parts.
func guardedList(l [][]byte) ([][]byte, func() bool) {
	var room [][]byte
	var changed []func() bool
	newer := laid(api.Roots{Gen: limit - 1, At: []int{guard}}, 24)
	for _, b := range append(slices.Clip(l), newer, newer, newer) {
		in, part := guardedBytes(b)
		room, changed = append(room, in), append(changed, part)
	}
	was := slices.Clone(room)
	return room[:len(l)], func() bool {
		for n, b := range room {
			if len(b) != len(was[n]) || cap(b) != cap(was[n]) || changed[n]() {
				return true
			}
		}
		return false
	}
}

// spoil a list, its spare room too.
func spoil(l []int) {
	room := l[:cap(l)]
	for i := range room {
		room[i] = 77 + i
	}
}

// spoilBytes spoils bytes, their spare room too.
func spoilBytes(b []byte) {
	room := b[:cap(b)]
	for i := range room {
		room[i] ^= 0x5A
	}
}

// ruledRoots are roots that are handed in, right ones and others.
func ruledRoots() []api.Roots {
	l := slices.Concat(rightRoots(24), rightRoots(40), rightRoots(256))
	for _, size := range []int{24, 256} {
		for what, r := range wrongRoots(size) {
			if len(r.At) < 300 || strings.HasPrefix(what, "65536") {
				l = append(l, r)
			}
		}
	}
	return l
}

// ruledPages are bytes that are handed in, a root's and others.
func ruledPages() [][]byte {
	l := [][]byte{nil, {}, {1}, ones(23), ones(24), ones(256), ones(257), make([]byte, 24)}
	for _, size := range []int{24, 40, 256} {
		for _, r := range rightRoots(size) {
			l = append(l, laid(r, size), turned(laid(r, size), 5))
		}
		for _, b := range otherPages(size) {
			l = append(l, b)
		}
	}
	return l
}

// A root that is handed in is not changed, nor its spare room, which isn't looked at either; what is put of it is no part of it, and the same again.
func TestHandedInRoots(t *testing.T) {
	for _, r := range ruledRoots() {
		for _, size := range []int{23, 24, 40, 256, 257} {
			at, changed := guardedNumbers(r.At)
			in := api.Roots{Gen: r.Gen, At: at}
			may, clipped := root.May(in, size), api.Roots{Gen: r.Gen, At: slices.Clip(slices.Clone(r.At))}
			first, e := root.Put(in, size)
			want := bytes.Clone(first)
			second, _ := root.Put(in, size)
			spoilBytes(second)
			if changed() {
				t.Fatalf("%v, %d: changed", r, size)
			}
			spoil(at)
			if !bytes.Equal(first, want) {
				t.Fatalf("%v, %d: kept", r, size)
			}
			again, eAgain := root.Put(clipped, size)
			if !bytes.Equal(again, want) || e != eAgain || may != root.May(clipped, size) {
				t.Fatalf("%v, %d: not the same again: %x, %d; first %x, %d", r, size, again, eAgain, want, e)
			}
		}
	}
}

// Bytes that are handed in are not changed, nor their spare room, which isn't looked at either; what is read of them is no part of them, and the same again.
func TestHandedInBytes(t *testing.T) {
	for _, b := range ruledPages() {
		in, changed := guardedBytes(b)
		first, e := root.Read(in)
		want := api.Roots{Gen: first.Gen, At: slices.Clone(first.At)}
		second, _ := root.Read(in)
		spoil(second.At)
		if changed() {
			t.Fatalf("%x: changed", b)
		}
		spoilBytes(in)
		if !same(first, want) {
			t.Fatalf("%x: kept", b)
		}
		if again, eAgain := root.Read(slices.Clip(bytes.Clone(b))); !same(again, want) || e != eAgain {
			t.Fatalf("%x: not the same again: %v, %d; first %v, %d", b, again, eAgain, want, e)
		}
	}
}

// ruledLists are lists that are handed in, with roots in them and without.
func ruledLists() [][][]byte {
	l := [][][]byte{nil, {}, {nil}, {ones(24), ones(24)}, {ofGen(3), ofGen(5), turned(ofGen(7), 50)}, {ofGen(5), ofGen(5)}, {ones(24), make([]byte, 24)}}
	for part := range slices.Chunk(ruledPages(), 5) {
		l = append(l, part)
	}
	r := rand.New(rand.NewSource(47))
	for range 500 {
		var some [][]byte
		for range r.Intn(6) {
			some = append(some, anyPage(r, 24+r.Intn(20)))
		}
		l = append(l, some)
	}
	return l
}

// A list that is handed in is not changed, nor any spare room of it, which isn't looked at either; the root that is found is no part of it, and the same again.
func TestHandedInLists(t *testing.T) {
	for _, l := range ruledLists() {
		in, changed := guardedList(l)
		at, first, e := root.Newest(in)
		want := api.Roots{Gen: first.Gen, At: slices.Clone(first.At)}
		_, second, _ := root.Newest(in)
		spoil(second.At)
		if changed() {
			t.Fatalf("%x: changed", l)
		}
		for _, b := range in {
			spoilBytes(b)
		}
		clear(in)
		if !same(first, want) {
			t.Fatalf("%x: kept", l)
		}
		chosen(t, "again", slices.Clip(slices.Clone(l)), at, want, e)
	}
}

// Of one list, and one root, many at once: nothing of them is written.
func TestAtOnce(t *testing.T) {
	r := api.Roots{Gen: 5, At: []int{1, 2, 3}}
	in, changed := guardedList([][]byte{ofGen(3), laid(r, 24), turned(ofGen(7), 50)})
	told := func() string {
		at, found, e := root.Newest(in)
		b, f := root.Put(r, 24)
		read, g := root.Read(in[1])
		return fmt.Sprint(at, found, e, b, f, read, g, root.May(r, 24))
	}
	want, got := told(), make(chan string)
	for range 8 {
		go func() { got <- told() }()
	}
	for range 8 {
		if text := <-got; text != want {
			t.Errorf("at once: %s, not %s", text, want)
		}
	}
	if changed() || !slices.Equal(r.At, []int{1, 2, 3}) {
		t.Error("changed")
	}
}
