package page_test

import (
	"bytes"
	"encoding/binary"
	"fmt"
	"hash/crc32"
	"math"
	"math/rand"
	"slices"
	"testing"

	"byway/api"
	"byway/page"
)

// What the tests hold the layer against: pages that are laid by hand, with the library's CRC-32.

// limit of generations: none may be this one.
const limit = 1 << 48

// sealed is b, and its sum behind it.
func sealed(b []byte) []byte {
	return binary.BigEndian.AppendUint32(bytes.Clone(b), crc32.ChecksumIEEE(b))
}

// unsealed are a page's bytes ahead of its sum; each part is put in as it is, many too, though it be none of a page, or another number than that of the body's bytes.
func unsealed(kind, id byte, gen uint64, many int, body []byte, size int) []byte {
	b := []byte{kind, id}
	b = append(b, binary.BigEndian.AppendUint64(nil, gen)[2:]...)
	b = binary.BigEndian.AppendUint16(b, uint16(many))
	b = append(b, body...)
	return append(b, make([]byte, size-4-len(b))...)
}

// laid are the bytes of a page.
func laid(p api.Page, size int) []byte {
	return sealed(unsealed(byte(p.Kind), byte(p.Id), p.Gen, len(p.Body), p.Body, size))
}

// same tells whether two pages are; a list is nil or empty alike.
func same(a, b api.Page) bool {
	return a.Kind == b.Kind && a.Id == b.Id && a.Gen == b.Gen && bytes.Equal(a.Body, b.Body)
}

// inForm tells what bytes with the right sum are: a page, or none.
func inForm(b []byte) (api.Page, bool) {
	many, room := int(b[8])<<8|int(b[9]), len(b)-16
	if b[0] != 1 && b[0] != 2 || b[1] > 63 || many > room {
		return api.Page{}, false
	}
	for at := 10 + many; at < len(b)-4; at++ {
		if b[at] != 0 {
			return api.Page{}, false
		}
	}
	var gen uint64
	for at := 2; at < 8; at++ {
		gen = 256*gen + uint64(b[at])
	}
	return api.Page{Kind: int(b[0]), Id: int(b[1]), Gen: gen, Body: b[10 : 10+many]}, true
}

// reading is what Read should tell of bytes.
func reading(b []byte) (api.Page, api.Errno) {
	if len(b) < 24 || len(b) > 256 {
		return api.Page{}, api.ErrLong
	}
	if bytes.Equal(b, ones(len(b))) {
		return api.Page{}, api.OK
	}
	if crc32.ChecksumIEEE(b[:len(b)-4]) != binary.BigEndian.Uint32(b[len(b)-4:]) {
		return api.Page{}, api.ErrSum
	}
	p, ok := inForm(b)
	if !ok {
		return api.Page{}, api.ErrForm
	}
	return p, api.OK
}

// hold that Read tells this of bytes.
func hold(t *testing.T, what string, b []byte, want api.Page, wantErr api.Errno) {
	t.Helper()
	if p, e := page.Read(b); e != wantErr || !same(p, want) {
		t.Errorf("%s: Read(%x): %v, %d; not %v, %d", what, b, p, e, want, wantErr)
	}
}

// refused holds that Read tells this error of bytes, and nothing else.
func refused(t *testing.T, what string, b []byte, want api.Errno) {
	t.Helper()
	hold(t, what, b, api.Page{}, want)
}

// Inputs.

// ones are so many bytes that are erased.
func ones(many int) []byte {
	return bytes.Repeat([]byte{255}, many)
}

// random are so many bytes, the same at each run.
func random(seed int64, many int) []byte {
	b := make([]byte, many)
	rand.New(rand.NewSource(seed)).Read(b)
	return b
}

// turned is b with the bits at these places turned.
func turned(b []byte, places ...int) []byte {
	t := bytes.Clone(b)
	for _, at := range places {
		t[at/8] ^= 0x80 >> (at % 8)
	}
	return t
}

// bodies of no more bytes than this: of no bytes and of that many, of one less, and between.
func bodies(most int) [][]byte {
	l := [][]byte{nil, {}}
	for _, many := range []int{1, 2, most / 2, most - 1, most} {
		if 0 < many && many <= most {
			l = append(l, make([]byte, many), ones(many), random(int64(many), many))
		}
	}
	return l
}

// sizes of pages, the least and the greatest among them.
var sizes = []int{24, 25, 26, 32, 40, 100, 128, 255, 256}

// wrongSizes are none of a page; some would be one by their last bits.
var wrongSizes = []int{0, 1, 8, 16, 17, 22, 23, 257, 258, 300, 512, 1 << 16, 1<<16 + 24, 1<<32 + 24, -1, -16, -24, -232, -256, -1 << 32, math.MinInt, math.MinInt + 24, math.MaxInt - 1, math.MaxInt}

// gens of a page: the least, the greatest, and each byte's edge.
func gens() []uint64 {
	l := []uint64{0, 1, 0x010203040506, 0xF0E0D0C0B0A0, limit - 2, limit - 1}
	for bits := 8; bits < 48; bits += 8 {
		l = append(l, 1<<bits-1, 1<<bits, 1<<bits+1)
	}
	return l
}

// rightPages are pages for this size, at each edge.
func rightPages(size int) []api.Page {
	var l []api.Page
	for _, kind := range []int{api.Data, api.Root} {
		for _, body := range bodies(size - 16) {
			for _, gen := range []uint64{0, 7, limit - 1} {
				l = append(l, api.Page{Kind: kind, Id: len(l) % 64, Gen: gen, Body: body})
			}
		}
		for id := range 64 {
			l = append(l, api.Page{Kind: kind, Id: id, Gen: 258, Body: []byte{byte(id)}})
		}
		for _, gen := range gens() {
			l = append(l, api.Page{Kind: kind, Id: 63, Gen: gen, Body: []byte{1, 2, 3}})
		}
	}
	return l
}

// wrongPages may not be, for this size, each for one cause; some would be a page by their last bits.
func wrongPages(size int) map[string]api.Page {
	out := map[string]api.Page{"nothing": {}}
	wrong := func(what string, change func(p *api.Page)) {
		p := api.Page{Kind: api.Data, Id: 5, Gen: 9, Body: []byte{1, 2}}
		change(&p)
		out[what] = p
	}
	for _, kind := range []int{api.Empty, 3, 4, 255, 256, 257, 258, 1<<16 + 1, 1<<32 + 1, 1<<32 + 2, -1, -2, -255, -254, math.MinInt, math.MinInt + 1, math.MaxInt} {
		wrong(fmt.Sprint("Kind ", kind), func(p *api.Page) { p.Kind = kind })
	}
	for _, id := range []int{-1, -2, -63, -64, -256, -1 << 32, math.MinInt, math.MinInt + 5, 64, 65, 128, 255, 256, 261, 1 << 16, 1<<32 + 5, math.MaxInt} {
		wrong(fmt.Sprint("Id ", id), func(p *api.Page) { p.Id = id })
	}
	for _, gen := range []uint64{limit, limit + 1, 2*limit - 1, 1 << 56, 1 << 63, 1<<63 + 9, math.MaxUint64 - 1, math.MaxUint64} {
		wrong(fmt.Sprint("Gen ", gen), func(p *api.Page) { p.Gen = gen })
	}
	for _, many := range []int{size - 15, size - 14, size - 13, size, size + 1, 1000, 1<<16 - 1, 1 << 16, 1<<16 + 2, 1<<20 + 2} {
		wrong(fmt.Sprintf("a Body of %d", many), func(p *api.Page) { p.Body = make([]byte, many) })
	}
	return out
}

// P7.1

func TestRoom(t *testing.T) {
	for size := -300; size < 1000; size++ {
		want := 0
		if 24 <= size && size <= 256 {
			want = size - 16
		}
		if got := page.Room(size); got != want {
			t.Errorf("Room(%d): %d, not %d", size, got, want)
		}
	}
	for _, size := range wrongSizes {
		if got := page.Room(size); got != 0 {
			t.Errorf("Room(%d): %d", size, got)
		}
	}
	if page.Room(24) != 8 || page.Room(256) != 240 || page.Room(23) != 0 || page.Room(257) != 0 {
		t.Error("Room at the edges")
	}
}

func TestMay(t *testing.T) {
	for _, size := range sizes {
		for _, p := range rightPages(size) {
			if !page.May(p, size) {
				t.Errorf("May(%v, %d): not", p, size)
			}
		}
		for what, p := range wrongPages(size) {
			if page.May(p, size) {
				t.Errorf("%s: May(%v, %d)", what, p, size)
			}
		}
	}
}

func TestMaySize(t *testing.T) {
	for size := -300; size < 1000; size++ {
		for _, kind := range []int{api.Data, api.Root} {
			p := api.Page{Kind: kind, Id: 1, Gen: 2}
			if got, want := page.May(p, size), 24 <= size && size <= 256; got != want {
				t.Errorf("May(%v, %d): %v", p, size, got)
			}
		}
	}
	for _, size := range wrongSizes {
		for _, body := range [][]byte{nil, {}, {1}, make([]byte, 8), make([]byte, 240)} {
			if p := (api.Page{Kind: api.Root, Body: body}); page.May(p, size) {
				t.Errorf("May(%v, %d)", p, size)
			}
		}
	}
}

// Each number of bytes up to each size's room, and one more.
func TestMayBody(t *testing.T) {
	for size := 24; size <= 256; size++ {
		for many := 0; many <= size; many++ {
			p := api.Page{Kind: api.Data, Body: make([]byte, many)}
			if got, want := page.May(p, size), many <= size-16; got != want {
				t.Errorf("a Body of %d in %d bytes: %v", many, size, got)
			}
		}
	}
}

func TestMayKindAndId(t *testing.T) {
	for n := -300; n < 600; n++ {
		if got, want := page.May(api.Page{Kind: n}, 24), n == 1 || n == 2; got != want {
			t.Errorf("Kind %d: %v", n, got)
		}
		if got, want := page.May(api.Page{Kind: api.Data, Id: n}, 24), 0 <= n && n <= 63; got != want {
			t.Errorf("Id %d: %v", n, got)
		}
	}
}

// Two pages by all their bytes, the sums too.
func TestPutBytes(t *testing.T) {
	for _, c := range []struct {
		p    api.Page
		size int
		want []byte
	}{
		{api.Page{Kind: 2, Id: 63, Gen: 0x010203040506, Body: []byte{7, 8}}, 24,
			[]byte{2, 63, 1, 2, 3, 4, 5, 6, 0, 2, 7, 8, 0, 0, 0, 0, 0, 0, 0, 0}},
		{api.Page{Kind: 1, Id: 0, Gen: 0, Body: nil}, 24,
			[]byte{1, 0, 0, 0, 0, 0, 0, 0, 0, 0, 0, 0, 0, 0, 0, 0, 0, 0, 0, 0}},
		{api.Page{Kind: 1, Id: 5, Gen: limit - 1, Body: []byte{1, 2, 3, 4, 5, 6, 7, 8}}, 24,
			[]byte{1, 5, 255, 255, 255, 255, 255, 255, 0, 8, 1, 2, 3, 4, 5, 6, 7, 8, 0, 0}},
		{api.Page{Kind: 2, Id: 9, Gen: 256, Body: []byte{255}}, 26,
			[]byte{2, 9, 0, 0, 0, 0, 1, 0, 0, 1, 255, 0, 0, 0, 0, 0, 0, 0, 0, 0, 0, 0}},
	} {
		if got, e := page.Put(c.p, c.size); e != api.OK || !bytes.Equal(got, sealed(c.want)) {
			t.Errorf("Put(%v, %d): %x, %d; not %x", c.p, c.size, got, e, sealed(c.want))
		}
	}
}

func TestPut(t *testing.T) {
	for _, size := range sizes {
		for _, p := range rightPages(size) {
			got, e := page.Put(p, size)
			if want := laid(p, size); e != api.OK || !bytes.Equal(got, want) {
				t.Errorf("Put(%v, %d): %x, %d; not %x", p, size, got, e, want)
			}
		}
	}
}

func TestPutEverySize(t *testing.T) {
	for size := 24; size <= 256; size++ {
		for many := 0; many <= size-16; many++ {
			p := api.Page{Kind: api.Data + many%2, Id: many % 64, Gen: uint64(size) << 30, Body: random(int64(many), many)}
			got, e := page.Put(p, size)
			if want := laid(p, size); e != api.OK || !bytes.Equal(got, want) {
				t.Fatalf("Put(%v, %d): %x, %d; not %x", p, size, got, e, want)
			}
		}
	}
}

// refusedPut holds that a page isn't put.
func refusedPut(t *testing.T, what string, p api.Page, size int) {
	t.Helper()
	if got, e := page.Put(p, size); e != api.ErrArg || len(got) != 0 {
		t.Errorf("%s: Put in %d bytes: %x, %d", what, size, got, e)
	}
}

func TestPutErrArg(t *testing.T) {
	for _, size := range sizes {
		for what, p := range wrongPages(size) {
			refusedPut(t, what, p, size)
		}
	}
	for _, size := range wrongSizes {
		for _, p := range rightPages(24) {
			refusedPut(t, "a page", p, size)
		}
		for what, p := range wrongPages(24) {
			refusedPut(t, what, p, size)
		}
	}
}

// What may be is put, and nothing else.
func TestPutAsMay(t *testing.T) {
	r := rand.New(rand.NewSource(7))
	seen := map[bool]int{}
	for range 20000 {
		p := api.Page{Kind: r.Intn(4), Id: r.Intn(80) - 8, Gen: r.Uint64() >> (12 + r.Intn(8)), Body: make([]byte, r.Intn(60))}
		size := 15 + r.Intn(80)
		may := page.May(p, size)
		seen[may]++
		got, e := page.Put(p, size)
		if may != (e == api.OK) || may != (len(got) == size) || !may && (e != api.ErrArg || len(got) != 0) {
			t.Fatalf("May(%v, %d): %v, put: %x, %d", p, size, may, got, e)
		}
	}
	if seen[true] < 1000 || seen[false] < 1000 {
		t.Errorf("not both: %v", seen)
	}
}

func TestBlank(t *testing.T) {
	if !page.Blank(nil) || !page.Blank([]byte{}) {
		t.Error("no bytes: not blank")
	}
	for _, many := range []int{1, 2, 3, 4, 23, 24, 25, 255, 256, 257, 1000, 1 << 16} {
		if !page.Blank(ones(many)) {
			t.Errorf("%d bytes of 255: not blank", many)
		}
		if page.Blank(make([]byte, many)) {
			t.Errorf("%d bytes of 0: blank", many)
		}
	}
}

// Each other byte, at each place.
func TestBlankNot(t *testing.T) {
	for _, many := range []int{1, 2, 23, 24, 256, 257} {
		for at := range many {
			for x := range 255 {
				b := ones(many)
				b[at] = byte(x)
				if page.Blank(b) {
					t.Fatalf("%d bytes, %d at %d: blank", many, x, at)
				}
			}
		}
	}
}

// P7.2

func TestRead(t *testing.T) {
	for _, size := range sizes {
		for _, p := range rightPages(size) {
			hold(t, "laid", laid(p, size), p, api.OK)
		}
	}
}

// Each place tells its part alone.
func TestReadParts(t *testing.T) {
	b := sealed([]byte{2, 63, 1, 2, 3, 4, 5, 6, 0, 2, 7, 8, 0, 0, 0, 0, 0, 0, 0, 0})
	hold(t, "a root", b, api.Page{Kind: api.Root, Id: 63, Gen: 0x010203040506, Body: []byte{7, 8}}, api.OK)
	b = sealed([]byte{1, 0, 0, 0, 0, 0, 0, 0, 0, 0, 0, 0, 0, 0, 0, 0, 0, 0, 0, 0})
	hold(t, "the least one", b, api.Page{Kind: api.Data}, api.OK)
	b = sealed([]byte{1, 5, 255, 255, 255, 255, 255, 255, 0, 8, 1, 2, 3, 4, 5, 6, 7, 0, 0, 0})
	hold(t, "a full one", b, api.Page{Kind: api.Data, Id: 5, Gen: limit - 1, Body: []byte{1, 2, 3, 4, 5, 6, 7, 0}}, api.OK)
}

// Bytes that are all 255, as many as a page may have, and fewer and more.
func TestReadBlank(t *testing.T) {
	for many := range 600 {
		if 24 <= many && many <= 256 {
			hold(t, "blank", ones(many), api.Page{Kind: api.Empty}, api.OK)
		} else {
			refused(t, "blank", ones(many), api.ErrLong)
		}
	}
	refused(t, "nil", nil, api.ErrLong)
}

// All but one are 255: of the least size each other byte at each place.
func TestReadAlmostBlank(t *testing.T) {
	for at := range 24 {
		for x := range 255 {
			b := ones(24)
			b[at] = byte(x)
			refused(t, "almost blank", b, api.ErrSum)
		}
	}
	for _, many := range sizes {
		for at := range many {
			refused(t, "almost blank", turned(ones(many), 8*at+at%8), api.ErrSum)
		}
	}
}

// lengths that no page has.
var lengths = []int{0, 1, 2, 3, 4, 5, 8, 10, 13, 14, 15, 16, 17, 20, 22, 23, 257, 258, 259, 272, 300, 511, 512, 1000, 1 << 16, 1<<16 + 24}

// Too few bytes and too many, whatever they are; those of which the sum is right are told likewise, and so are those that would be a page's but for that.
func TestReadErrLong(t *testing.T) {
	for _, many := range lengths {
		refused(t, "noughts", make([]byte, many), api.ErrLong)
		refused(t, "random", random(3, many), api.ErrLong)
		if many >= 4 {
			refused(t, "noughts with their sum", sealed(make([]byte, many-4)), api.ErrLong)
			refused(t, "random with their sum", sealed(random(4, many-4)), api.ErrLong)
		}
		if many >= 14 {
			b := sealed(unsealed(1, 2, 3, 0, nil, many))
			refused(t, "laid as a page", b, api.ErrLong)
			refused(t, "laid as a page, with another sum", turned(b, 8*many-1), api.ErrLong)
			refused(t, "laid as a page of Kind 3", sealed(unsealed(3, 2, 3, 0, nil, many)), api.ErrLong)
		}
	}
}

// A page with bytes taken away, and bytes behind it.
func TestReadCut(t *testing.T) {
	for _, size := range sizes {
		p := api.Page{Kind: api.Data, Id: 1, Gen: 1 << 40, Body: random(8, size-16)}
		b := laid(p, size)
		for many := range b {
			want := api.ErrSum
			if many < 24 {
				want = api.ErrLong
			}
			refused(t, "cut behind", b[:many], want)
			if many > 0 {
				want = api.ErrSum
				if size-many < 24 {
					want = api.ErrLong
				}
				refused(t, "cut ahead", b[many:], want)
			}
		}
		for _, more := range [][]byte{{0}, {255}, make([]byte, 4), ones(8), b} {
			want := api.ErrSum
			if size+len(more) > 256 {
				want = api.ErrLong
			}
			refused(t, "more behind", slices.Concat(b, more), want)
		}
	}
}

// wrongSums are bytes like those of a page, with a sum that isn't that.
func wrongSums(b []byte) map[string][]byte {
	end := len(b) - 4
	head, own := b[:end], crc32.ChecksumIEEE(b[:end])
	with := func(n uint32) []byte {
		return binary.BigEndian.AppendUint32(bytes.Clone(head), n)
	}
	return map[string][]byte{
		"one more":         with(own + 1),
		"one less":         with(own - 1),
		"turned":           with(^own),
		"nought":           with(0),
		"all ones":         with(math.MaxUint32),
		"the lowest first": binary.LittleEndian.AppendUint32(bytes.Clone(head), own),
		"of another sort":  with(crc32.Checksum(head, crc32.MakeTable(crc32.Castagnoli))),
		"of a byte less":   with(crc32.ChecksumIEEE(head[:end-1])),
		"of all with 0":    with(crc32.ChecksumIEEE(append(bytes.Clone(head), 0, 0, 0, 0))),
		"of the Body":      with(crc32.ChecksumIEEE(head[10:])),
		"of another page":  with(crc32.ChecksumIEEE(turned(head, 77))),
		"ahead":            append(binary.BigEndian.AppendUint32(nil, own), head...),
	}
}

func TestReadErrSum(t *testing.T) {
	for _, size := range sizes {
		for _, p := range rightPages(size) {
			if len(p.Body) == 0 {
				continue
			}
			for what, b := range wrongSums(laid(p, size)) {
				refused(t, "the sum is "+what, b, api.ErrSum)
			}
		}
		refused(t, "noughts", make([]byte, size), api.ErrSum)
		refused(t, "random", random(6, size), api.ErrSum)
	}
}

// noPages are bytes of a size, with the right sum, that are no page's, each for one cause.
func noPages(size int) map[string][]byte {
	out, room := map[string][]byte{}, size-16
	put := func(what string, b []byte) {
		out[what] = sealed(b)
	}
	for n := range 256 {
		if n != api.Data && n != api.Root {
			put(fmt.Sprint("Kind ", n), unsealed(byte(n), 2, 3, 1, []byte{4}, size))
		}
		if n > 63 {
			put(fmt.Sprint("Id ", n), unsealed(1, byte(n), 3, 1, []byte{4}, size))
		}
	}
	for _, many := range []int{room + 1, room + 2, room + 3, room + 6, room + 7, size, size + 1, 255, 256, 257, 512, 1 << 12, 1 << 15, 1<<15 + 1, 1<<16 - 256, 1<<16 - 1} {
		if many > room {
			put(fmt.Sprintf("a Body of %d, of noughts", many), unsealed(1, 2, 3, many, nil, size))
			put(fmt.Sprintf("a Body of %d", many), unsealed(2, 2, 3, many, random(9, room+2), size))
		}
	}
	for many := 0; many <= room; many += 1 + room/20 {
		for at := 10 + many; at < size-4; at++ {
			for _, x := range []byte{1, 0x80, 255} {
				b := unsealed(1, 2, 3, many, random(10, many), size)
				b[at] = x
				put(fmt.Sprintf("%d at %d behind a Body of %d", x, at, many), b)
			}
		}
	}
	put("noughts", make([]byte, size-4))
	put("ones", ones(size-4))
	return out
}

func TestReadErrForm(t *testing.T) {
	for _, size := range sizes {
		for what, b := range noPages(size) {
			refused(t, what, b, api.ErrForm)
		}
	}
}

// Where the sum isn't that, and they are no page's, that of the sum is told.
func TestReadErrSumAhead(t *testing.T) {
	for _, size := range []int{24, 25, 256} {
		for what, b := range noPages(size) {
			refused(t, what, turned(b, 8*size-1), api.ErrSum)
			refused(t, what, turned(b, 8*(size-4)), api.ErrSum)
		}
	}
}

// Each number of Body's bytes, with nothing but noughts, and with one byte behind it.
func TestReadMany(t *testing.T) {
	for size := 24; size <= 256; size++ {
		for many := range size + 20 {
			full := bytes.Repeat([]byte{9}, min(many, size-14))
			want := api.ErrForm
			var p api.Page
			if many <= size-16 {
				want, p = api.OK, api.Page{Kind: api.Root, Id: 8, Gen: 1, Body: full}
			}
			hold(t, fmt.Sprint("many ", many), sealed(unsealed(2, 8, 1, many, full, size)), p, want)
			if 0 < many && many <= size-16 {
				refused(t, fmt.Sprint("one less than ", many), sealed(unsealed(2, 8, 1, many-1, full, size)), api.ErrForm)
			}
		}
	}
}

// Whatever bytes there are: what Read tells is what they are, by hand.
func TestReadRandom(t *testing.T) {
	r := rand.New(rand.NewSource(17))
	seen := map[api.Errno]int{}
	for range 60000 {
		size := 24 + r.Intn(24)
		b := unsealed(byte(r.Intn(3)), byte(r.Intn(66)), r.Uint64()>>16, r.Intn(size-12), random(r.Int63(), r.Intn(size-13)), size)
		if r.Intn(2) == 0 {
			p := api.Page{Kind: 1 + r.Intn(2), Id: r.Intn(64), Gen: r.Uint64() >> 16, Body: random(r.Int63(), r.Intn(size-15))}
			b = unsealed(byte(p.Kind), byte(p.Id), p.Gen, len(p.Body), p.Body, size)
			b[r.Intn(len(b))] = byte(r.Intn(256))
		}
		b = sealed(b)
		switch r.Intn(5) {
		case 0:
			b[r.Intn(size)] = byte(r.Intn(256))
		case 1:
			b = b[:r.Intn(size)]
		}
		want, wantErr := reading(b)
		seen[wantErr]++
		if p, e := page.Read(b); e != wantErr || !same(p, want) {
			t.Fatalf("Read(%x): %v, %d; not %v, %d", b, p, e, want, wantErr)
		}
	}
	for _, e := range []api.Errno{api.OK, api.ErrLong, api.ErrSum, api.ErrForm} {
		if seen[e] < 1000 {
			t.Errorf("error %d just %d times", e, seen[e])
		}
	}
}

// P7.3

func TestPutRead(t *testing.T) {
	for size := 24; size <= 256; size++ {
		for _, p := range rightPages(size) {
			b, e := page.Put(p, size)
			if e != api.OK {
				t.Fatalf("Put(%v, %d): %d", p, size, e)
			}
			hold(t, "put", b, p, api.OK)
		}
	}
}

// What is read is put as the same bytes again.
func TestReadPut(t *testing.T) {
	for _, size := range sizes {
		for _, p := range rightPages(size) {
			b := laid(p, size)
			q, e := page.Read(b)
			if e != api.OK {
				t.Fatalf("Read(%x): %d", b, e)
			}
			if again, e := page.Put(q, size); e != api.OK || !bytes.Equal(again, b) {
				t.Errorf("Put(%v, %d): %x, %d; not %x", q, size, again, e, b)
			}
		}
	}
}

// pagesOf a size are some that are unlike, put as bytes.
func pagesOf(t *testing.T, size int) [][]byte {
	t.Helper()
	var l [][]byte
	for _, p := range []api.Page{
		{Kind: api.Data},
		{Kind: api.Root, Id: 63, Gen: limit - 1, Body: ones(size - 16)},
		{Kind: api.Data, Id: 21, Gen: 1 << 20, Body: random(12, size-16)},
		{Kind: api.Root, Id: 1, Gen: 0x010203040506, Body: []byte{7, 8}},
	} {
		b, e := page.Put(p, size)
		if e != api.OK {
			t.Fatalf("Put(%v, %d): %d", p, size, e)
		}
		l = append(l, b)
	}
	return l
}

// unread tells of a page's bytes with these bits turned if they are read.
func unread(t *testing.T, b []byte, places ...int) {
	t.Helper()
	if p, e := page.Read(turned(b, places...)); e != api.ErrSum || !same(p, api.Page{}) {
		t.Fatalf("%x, bits %v turned: %v, %d", b, places, p, e)
	}
}

// Each bit, and each two of them, of short pages.
func TestTurnedShort(t *testing.T) {
	for _, b := range pagesOf(t, 24) {
		for i := range 8 * len(b) {
			unread(t, b, i)
			for n := range i {
				unread(t, b, n, i)
			}
		}
	}
}

// Of long pages each bit alone, with the first, with the last, with the next, and with some other one.
func TestTurnedLong(t *testing.T) {
	r := rand.New(rand.NewSource(13))
	for _, size := range []int{25, 100, 255, 256} {
		for _, b := range pagesOf(t, size) {
			last := 8*size - 1
			for i := range last + 1 {
				unread(t, b, i)
				for _, n := range []int{0, last, (i + 1) % (last + 1), r.Intn(last + 1)} {
					if n != i {
						unread(t, b, i, n)
					}
				}
			}
		}
	}
}

// What is blank isn't read as a page with bits turned, nor is a page with bits turned blank.
func TestTurnedBlank(t *testing.T) {
	for i := range 8 * 24 {
		unread(t, ones(24), i)
		for n := range i {
			unread(t, ones(24), n, i)
		}
	}
}

// The document's rules.

// guard is what stands in the spare room of what is handed in.
const guard = 0xE7

// guarded is b with spare room behind it; what comes with it tells whether any of it was changed.
func guarded(b []byte) ([]byte, func() bool) {
	room := append(bytes.Clone(b), bytes.Repeat([]byte{guard}, 300)...)
	was := bytes.Clone(room)
	return room[:len(b)], func() bool { return !bytes.Equal(room, was) }
}

// spoil a list, its spare room too.
func spoil(b []byte) {
	room := b[:cap(b)]
	for i := range room {
		room[i] ^= 0x5A
	}
}

// calls are those that take a list, as a page's Body or as bytes; each answers a list, and all else as text.
func calls() map[string]func([]byte) ([]byte, string) {
	out := map[string]func([]byte) ([]byte, string){
		"Blank": func(b []byte) ([]byte, string) { return nil, fmt.Sprint(page.Blank(b)) },
		"Read": func(b []byte) ([]byte, string) {
			p, e := page.Read(b)
			return p.Body, fmt.Sprint(p.Kind, p.Id, p.Gen, e)
		},
	}
	for _, size := range []int{23, 24, 40, 256, 257} {
		for _, kind := range []int{api.Empty, api.Data, api.Root} {
			out[fmt.Sprintf("May of %d bytes, Kind %d", size, kind)] = func(b []byte) ([]byte, string) {
				return nil, fmt.Sprint(page.May(api.Page{Kind: kind, Id: 3, Gen: 4, Body: b}, size))
			}
			out[fmt.Sprintf("Put in %d bytes, Kind %d", size, kind)] = func(b []byte) ([]byte, string) {
				put, e := page.Put(api.Page{Kind: kind, Id: 3, Gen: 4, Body: b}, size)
				return put, fmt.Sprint(e)
			}
		}
	}
	return out
}

// ruled are what is handed in: bodies, pages, and what is no page's.
func ruled() [][]byte {
	l := [][]byte{nil, {}, ones(23), ones(24), ones(256), ones(257), make([]byte, 24)}
	for _, size := range []int{24, 40, 256} {
		l = append(l, bodies(size-15)...)
		for _, p := range rightPages(size) {
			l = append(l, laid(p, size), turned(laid(p, size), 5))
		}
		l = append(l, sealed(make([]byte, size-4)), sealed(unsealed(1, 2, 3, size-15, random(2, size-15), size)))
	}
	return l
}

// What is handed in is not changed, its spare room neither, not even by who gets the answer.
func TestHandedIn(t *testing.T) {
	for name, call := range calls() {
		for _, b := range ruled() {
			in, changed := guarded(b)
			out, _ := call(in)
			if changed() {
				t.Fatalf("%s changes %x", name, b)
			}
			spoil(out)
			if changed() {
				t.Fatalf("%s hands out %x", name, b)
			}
		}
	}
}

// What is answered stays as it is, whatever is done to what was handed in, or to another answer, and is the same again.
func TestAnswered(t *testing.T) {
	for name, call := range calls() {
		for _, b := range ruled() {
			in, _ := guarded(b)
			first, text := call(in)
			second, _ := call(in)
			want := bytes.Clone(first)
			spoil(second)
			spoil(in)
			if !bytes.Equal(first, want) {
				t.Fatalf("%s keeps of %x", name, b)
			}
			again, textAgain := call(slices.Clip(bytes.Clone(b)))
			if !bytes.Equal(again, want) || textAgain != text {
				t.Fatalf("%s of %x: not the same again: %s, %s", name, b, text, textAgain)
			}
		}
	}
}
