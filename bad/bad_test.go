package bad_test

import (
	"bytes"
	"encoding/binary"
	"fmt"
	"hash/crc32"
	"math"
	"math/rand"
	"slices"
	"strings"
	"testing"

	"byway/api"
	"byway/bad"
)

// What the tests hold the layer against: reserves by counting, and bytes that are laid by hand, with the library's CRC-32.

// right by counting: how often each number stands or is left.
func right(r api.Reserve) bool {
	var often [255]int
	all := 0
	for _, l := range [][]int{r.Stands, r.Left} {
		for _, n := range l {
			if n < 0 || n > 254 {
				return false
			}
			often[n]++
			all++
		}
	}
	return 1 <= all && all <= 255 && slices.Max(often[:]) == 1
}

// made is what New should answer.
func made(blocks, spare int, bads []int) (api.Reserve, api.Errno) {
	if blocks < 1 || blocks > 255 || spare < 0 || spare > 255 || blocks+spare > 255 {
		return api.Reserve{}, api.ErrArg
	}
	var r api.Reserve
	for n := 0; n < blocks+spare; n++ {
		switch {
		case slices.Contains(bads, n):
		case len(r.Stands) < blocks:
			r.Stands = append(r.Stands, n)
		default:
			r.Left = append(r.Left, n)
		}
	}
	if len(r.Stands) < blocks {
		return api.Reserve{}, api.ErrFull
	}
	return r, api.OK
}

// sealed is b, and its sum behind it.
func sealed(b ...byte) []byte {
	return binary.BigEndian.AppendUint32(bytes.Clone(b), crc32.ChecksumIEEE(b))
}

// unsealed are a reserve's bytes ahead of their sum; each number is put in by its last bits.
func unsealed(r api.Reserve) []byte {
	b := []byte{byte(len(r.Stands)), byte(len(r.Left))}
	for _, n := range r.Stands {
		b = append(b, byte(n))
	}
	for _, n := range r.Left {
		b = append(b, byte(n))
	}
	return b
}

// laid are the bytes of a reserve.
func laid(r api.Reserve) []byte {
	return sealed(unsealed(r)...)
}

// reading is what Read should tell of bytes.
func reading(b []byte) (api.Reserve, api.Errno) {
	if len(b) < 4 {
		return api.Reserve{}, api.ErrLong
	}
	end := len(b) - 4
	if crc32.ChecksumIEEE(b[:end]) != binary.BigEndian.Uint32(b[end:]) {
		return api.Reserve{}, api.ErrSum
	}
	if end < 2 || end != 2+int(b[0])+int(b[1]) {
		return api.Reserve{}, api.ErrForm
	}
	var r api.Reserve
	for at := 2; at < end; at++ {
		if at < 2+int(b[0]) {
			r.Stands = append(r.Stands, int(b[at]))
		} else {
			r.Left = append(r.Left, int(b[at]))
		}
	}
	if !right(r) {
		return api.Reserve{}, api.ErrForm
	}
	return r, api.OK
}

// same tells whether two reserves are; a list is nil or empty alike.
func same(a, b api.Reserve) bool {
	return slices.Equal(a.Stands, b.Stands) && slices.Equal(a.Left, b.Left)
}

// hold that Read tells this of bytes.
func hold(t *testing.T, what string, b []byte, want api.Reserve, wantErr api.Errno) {
	t.Helper()
	if r, e := bad.Read(b); e != wantErr || !same(r, want) {
		t.Errorf("%s: Read(%x): %v, %d; not %v, %d", what, b, r, e, want, wantErr)
	}
}

// refused holds that Read tells this error of bytes, and nothing else.
func refused(t *testing.T, what string, b []byte, want api.Errno) {
	t.Helper()
	hold(t, what, b, api.Reserve{}, want)
}

// Inputs.

// far are numbers that are none of a reserve, and no places in it; some would be by their last bits, or if they wrapped round.
var far = []int{255, 256, 257, 258, 300, 511, 512, 1 << 16, 1<<31 - 1, 1 << 31, 1 << 32, 1<<32 + 1, 1<<32 + 2, 1 << 62, math.MaxInt - 1, math.MaxInt,
	-1, -2, -3, -254, -255, -256, -255 * 256, -1 << 31, -1 << 32, 1 - 1<<32, math.MinInt, math.MinInt + 1, math.MinInt + 2, math.MinInt + 255}

// upTo are the numbers from first on, that many.
func upTo(first, many int) []int {
	var l []int
	for n := range many {
		l = append(l, first+n)
	}
	return l
}

// mixed reserve of so many numbers, the same at each run.
func mixed(seed int64, stand, left int) api.Reserve {
	l := rand.New(rand.NewSource(seed)).Perm(255)
	return api.Reserve{Stands: slices.Clone(l[:stand]), Left: slices.Clone(l[stand : stand+left])}
}

// rightReserves are some, at each edge.
func rightReserves() []api.Reserve {
	l := []api.Reserve{
		{Stands: []int{0}},
		{Stands: []int{254}, Left: []int{}},
		{Left: []int{0}},
		{Stands: []int{}, Left: []int{254}},
		{Stands: []int{0}, Left: []int{254}},
		{Stands: []int{254}, Left: []int{0}},
		{Stands: []int{0, 2, 3}, Left: []int{4}},
		{Stands: []int{3, 2, 0}, Left: []int{9, 4, 1}},
		{Left: []int{7, 1, 254, 0}},
		{Stands: upTo(0, 255)},
		{Left: upTo(0, 255)},
		{Stands: upTo(0, 254), Left: []int{254}},
		{Stands: []int{0}, Left: upTo(1, 254)},
		{Stands: upTo(1, 254)},
	}
	for i, many := range [][2]int{{1, 1}, {2, 0}, {0, 2}, {2, 3}, {5, 1}, {16, 16}, {127, 128}, {128, 127}, {200, 54}, {254, 1}, {255, 0}, {0, 255}} {
		l = append(l, mixed(int64(i), many[0], many[1]))
	}
	return l
}

// wrongReserves aren't right, each for one cause.
func wrongReserves() map[string]api.Reserve {
	out := map[string]api.Reserve{
		"nothing":                         {},
		"empty lists":                     {Stands: []int{}, Left: []int{}},
		"twice, all that stand":           {Stands: []int{5, 5}},
		"twice among those that stand":    {Stands: []int{1, 2, 3, 1}, Left: []int{4}},
		"twice, all that are left":        {Left: []int{0, 0}},
		"twice among those that are left": {Stands: []int{4}, Left: []int{1, 2, 2, 3}},
		"twice across both":               {Stands: []int{3}, Left: []int{3}},
		"twice across both, far apart":    {Stands: []int{254, 1, 2}, Left: []int{3, 4, 254}},
		"thrice":                          {Stands: []int{6, 6}, Left: []int{6}},
		"256 that stand":                  {Stands: upTo(0, 256)},
		"256 that are left":               {Left: upTo(0, 256)},
		"256 in both":                     {Stands: upTo(0, 128), Left: upTo(128, 128)},
		"256, of them one twice":          {Stands: upTo(0, 255), Left: []int{0}},
		"257, of them two twice":          {Stands: []int{1, 2}, Left: upTo(0, 255)},
		"all numbers, and all again":      {Stands: upTo(0, 255), Left: upTo(0, 255)},
		"256 times 0":                     {Stands: make([]int, 256)},
		"65536 numbers":                   {Stands: upTo(0, 1<<16), Left: []int{1}},
		"65537 numbers, all of them left": {Left: upTo(0, 1<<16+1)},
		"255 numbers, with 255":           {Stands: upTo(1, 255)},
		"255 numbers, with -1":            {Left: upTo(-1, 255)},
	}
	for _, n := range far {
		out[fmt.Sprint(n, " alone stands")] = api.Reserve{Stands: []int{n}}
		out[fmt.Sprint(n, " alone is left")] = api.Reserve{Left: []int{n}}
		out[fmt.Sprint(n, " stands, the first one")] = api.Reserve{Stands: []int{n, 7, 8}, Left: []int{9}}
		out[fmt.Sprint(n, " stands, the last one")] = api.Reserve{Stands: []int{7, 8, n}, Left: []int{9}}
		out[fmt.Sprint(n, " is left, the first one")] = api.Reserve{Stands: []int{7, 8}, Left: []int{n, 9}}
		out[fmt.Sprint(n, " is left, the last one")] = api.Reserve{Stands: []int{7, 8}, Left: []int{9, n}}
	}
	return out
}

// noPlaces are numbers of which there is no such one that stands.
func noPlaces(r api.Reserve) []int {
	many := len(r.Stands)
	l := []int{many, many + 1, many + 2, many + len(r.Left), many + 256, many + 1<<32}
	for _, n := range far {
		if n < 0 || n >= many {
			l = append(l, n)
		}
	}
	return l
}

// P8.1

// The chapter's example, by all its parts.
func TestExample(t *testing.T) {
	r, e := bad.New(3, 2, []int{1})
	if want := (api.Reserve{Stands: []int{0, 2, 3}, Left: []int{4}}); e != api.OK || !same(r, want) {
		t.Fatalf("New(3, 2, 1): %v, %d; not %v", r, e, want)
	}
	if !bad.Right(r) {
		t.Error("not right")
	}
	for n, want := range []int{0, 2, 3} {
		if got, e := bad.At(r, n); e != api.OK || got != want {
			t.Errorf("At %d: %d, %d; not %d", n, got, e, want)
		}
	}
	r, e = bad.Replace(r, 1)
	if want := (api.Reserve{Stands: []int{0, 4, 3}}); e != api.OK || !same(r, want) {
		t.Errorf("Replace 1: %v, %d; not %v", r, e, want)
	}
}

func TestRight(t *testing.T) {
	for _, r := range rightReserves() {
		if !bad.Right(r) {
			t.Errorf("%v: not right", r)
		}
	}
	for what, r := range wrongReserves() {
		if bad.Right(r) {
			t.Errorf("%s: right", what)
		}
	}
}

// So many numbers, shared out between both lists in each way.
func TestRightMany(t *testing.T) {
	for many := range 300 {
		l := upTo(0, min(many, 255))
		l = append(l, make([]int, many-len(l))...)
		for stand := range many + 1 {
			r := api.Reserve{Stands: l[:stand], Left: l[stand:]}
			if got, want := bad.Right(r), 1 <= many && many <= 255; got != want {
				t.Fatalf("%d stand, %d are left: %v", stand, many-stand, got)
			}
		}
	}
}

// Each number, as one that stands, and as one that is left.
func TestRightNumber(t *testing.T) {
	for n := -600; n < 900; n++ {
		want := 0 <= n && n <= 254
		for _, r := range []api.Reserve{{Stands: []int{n}}, {Left: []int{n}}} {
			if got := bad.Right(r); got != want {
				t.Errorf("%v: %v", r, got)
			}
		}
	}
}

// A number twice, at each two places, whichever of them stand.
func TestRightTwice(t *testing.T) {
	for _, many := range []int{2, 3, 7, 40} {
		for i := range many {
			for k := range i {
				l := upTo(100, many)
				l[i] = l[k]
				for stand := range many + 1 {
					if r := (api.Reserve{Stands: l[:stand], Left: l[stand:]}); bad.Right(r) {
						t.Fatalf("%v: right", r)
					}
				}
			}
		}
	}
}

func TestRightRandom(t *testing.T) {
	r := rand.New(rand.NewSource(3))
	seen := map[bool]int{}
	for range 20000 {
		q := api.Reserve{Stands: make([]int, r.Intn(8)), Left: make([]int, r.Intn(8))}
		for _, l := range [][]int{q.Stands, q.Left} {
			for i := range l {
				l[i] = r.Intn(257) - 1
			}
		}
		want := right(q)
		seen[want]++
		if got := bad.Right(q); got != want {
			t.Fatalf("Right(%v): %v", q, got)
		}
	}
	if seen[true] < 1000 || seen[false] < 1000 {
		t.Errorf("not both: %v", seen)
	}
}

// holdNew that New answers as it should.
func holdNew(t *testing.T, blocks, spare int, bads []int) {
	t.Helper()
	want, wantErr := made(blocks, spare, bads)
	got, e := bad.New(blocks, spare, bads)
	if e != wantErr || !same(got, want) {
		t.Errorf("New(%d, %d, %v): %v, %d; not %v, %d", blocks, spare, bads, got, e, want, wantErr)
	}
	if e == api.OK && !bad.Right(got) {
		t.Errorf("New(%d, %d, %v): %v, that isn't right", blocks, spare, bads, got)
	}
}

// Each few blocks, with each of them bad, or not, and some that are none of them.
func TestNew(t *testing.T) {
	for blocks := -1; blocks < 6; blocks++ {
		for spare := -1; spare < 5; spare++ {
			for set := range 1 << max(blocks+spare+1, 0) {
				var bads []int
				for n := range 12 {
					if set>>n&1 == 1 {
						bads = append(bads, n)
					}
				}
				holdNew(t, blocks, spare, bads)
				slices.Reverse(bads)
				holdNew(t, blocks, spare, bads)
			}
		}
	}
}

// Each number of blocks and spare ones, with none bad, and with some.
func TestNewMany(t *testing.T) {
	some := []int{200, 0, 3, 3, 254, 255, -1}
	for blocks := -4; blocks < 262; blocks++ {
		for spare := -4; spare < 262; spare++ {
			holdNew(t, blocks, spare, nil)
			holdNew(t, blocks, spare, some)
		}
	}
}

// The edges, each by itself.
func TestNewEdges(t *testing.T) {
	for _, c := range []struct {
		blocks, spare int
		want          api.Errno
	}{
		{0, 0, api.ErrArg}, {0, 1, api.ErrArg}, {0, 255, api.ErrArg}, {-1, 2, api.ErrArg}, {-1, 256, api.ErrArg},
		{1, -1, api.ErrArg}, {2, -1, api.ErrArg}, {255, -1, api.ErrArg}, {256, -1, api.ErrArg}, {300, -100, api.ErrArg},
		{255, 1, api.ErrArg}, {1, 255, api.ErrArg}, {128, 128, api.ErrArg}, {200, 56, api.ErrArg}, {256, 0, api.ErrArg},
		{1, 0, api.OK}, {1, 1, api.OK}, {255, 0, api.OK}, {254, 1, api.OK}, {1, 254, api.OK}, {128, 127, api.OK},
	} {
		r, e := bad.New(c.blocks, c.spare, nil)
		if e != c.want {
			t.Errorf("New(%d, %d): %d, not %d", c.blocks, c.spare, e, c.want)
		}
		want := api.Reserve{}
		if c.want == api.OK {
			want = api.Reserve{Stands: upTo(0, c.blocks), Left: upTo(c.blocks, c.spare)}
		}
		if !same(r, want) {
			t.Errorf("New(%d, %d): %v", c.blocks, c.spare, r)
		}
	}
}

// Numbers that together wrap round.
func TestNewFar(t *testing.T) {
	for _, a := range far {
		for _, b := range slices.Concat(far, []int{0, 1, 2, 100, 254}) {
			holdNew(t, a, b, nil)
			holdNew(t, b, a, nil)
		}
	}
	for _, c := range [][2]int{{math.MaxInt, math.MaxInt}, {math.MaxInt, 2}, {2, math.MaxInt}, {math.MinInt, math.MinInt}, {math.MinInt, 3}, {3, math.MinInt}, {1 << 62, 1 << 62}, {1<<32 + 1, 0}, {1, 1 << 32}} {
		if r, e := bad.New(c[0], c[1], nil); e != api.ErrArg || !same(r, api.Reserve{}) {
			t.Errorf("New(%d, %d): %v, %d", c[0], c[1], r, e)
		}
	}
}

// Just as many as blocks that aren't bad, and one fewer, whichever are bad.
func TestNewFull(t *testing.T) {
	r := rand.New(rand.NewSource(5))
	for _, c := range [][2]int{{1, 0}, {1, 1}, {2, 1}, {3, 2}, {1, 254}, {255, 0}, {254, 1}, {100, 155}, {128, 127}} {
		blocks, all := c[0], c[0]+c[1]
		for range 20 {
			l := r.Perm(all)
			q, e := bad.New(blocks, c[1], l[blocks:])
			want := slices.Sorted(slices.Values(l[:blocks]))
			if e != api.OK || !slices.Equal(q.Stands, want) || len(q.Left) != 0 {
				t.Fatalf("New(%d, %d, %v): %v, %d; not %v", blocks, c[1], l[blocks:], q, e, want)
			}
			for _, bads := range [][]int{l[blocks-1:], l} {
				if q, e := bad.New(blocks, c[1], bads); e != api.ErrFull || !same(q, api.Reserve{}) {
					t.Fatalf("New(%d, %d, %v): %v, %d", blocks, c[1], bads, q, e)
				}
			}
		}
	}
}

// Bad numbers that there are twice count once; those that are none don't count.
func TestNewBad(t *testing.T) {
	for _, bads := range [][]int{
		nil, {}, far, {5}, {5, 6, 7}, {1, 1}, {1, 1, 1, 1, 1, 1}, {4, 0, 4, 0, 4, 0}, {1, -1, 5, 1 << 32}, slices.Concat(far, []int{2, 2}, far), slices.Repeat(far, 100), upTo(5, 1000), upTo(-1000, 1000), upTo(-1000, 1001),
		slices.Repeat([]int{3}, 1<<16), {1<<32 + 1}, {256, 257, 258}, {-256, -255}, {math.MinInt, math.MaxInt, 0},
	} {
		holdNew(t, 3, 2, bads)
	}
	r, e := bad.New(3, 2, far)
	if want := (api.Reserve{Stands: []int{0, 1, 2}, Left: []int{3, 4}}); e != api.OK || !same(r, want) {
		t.Errorf("with none of them bad: %v, %d", r, e)
	}
	r, e = bad.New(3, 2, []int{4, 0, 4, 0, 9, 0})
	if want := (api.Reserve{Stands: []int{1, 2, 3}}); e != api.OK || !same(r, want) {
		t.Errorf("with two bad, each twice or more: %v, %d", r, e)
	}
}

// Where blocks or spare may not be, and all are bad, the first is told.
func TestNewErrArgAhead(t *testing.T) {
	for _, c := range [][2]int{{0, 0}, {0, 3}, {-1, 3}, {3, -1}, {256, 0}, {200, 56}, {1, 255}} {
		if r, e := bad.New(c[0], c[1], upTo(0, 600)); e != api.ErrArg || !same(r, api.Reserve{}) {
			t.Errorf("New(%d, %d) of bad ones: %v, %d", c[0], c[1], r, e)
		}
	}
}

func TestNewRandom(t *testing.T) {
	r := rand.New(rand.NewSource(7))
	for range 5000 {
		bads := make([]int, r.Intn(100))
		for i := range bads {
			bads[i] = r.Intn(110) - 5
		}
		holdNew(t, r.Intn(60), r.Intn(60), bads)
	}
}

func TestAt(t *testing.T) {
	for _, r := range rightReserves() {
		for n, want := range r.Stands {
			if got, e := bad.At(r, n); e != api.OK || got != want {
				t.Errorf("At(%v, %d): %d, %d; not %d", r, n, got, e, want)
			}
		}
	}
}

// No such n, and a reserve that isn't right, or both.
func TestAtErrArg(t *testing.T) {
	no := func(what string, r api.Reserve, n int) {
		t.Helper()
		if got, e := bad.At(r, n); e != api.ErrArg || got != 0 {
			t.Errorf("%s: At %d: %d, %d", what, n, got, e)
		}
	}
	for _, r := range rightReserves() {
		for _, n := range noPlaces(r) {
			no(fmt.Sprint(r), r, n)
		}
	}
	for what, r := range wrongReserves() {
		for _, n := range []int{-1, 0, 1, 2, len(r.Stands) - 1, len(r.Stands), math.MinInt, math.MaxInt} {
			no(what, r, n)
		}
	}
}

// P8.2

// The first one that is left stands in the n-th one's stead; all else stays.
func TestReplace(t *testing.T) {
	for _, r := range rightReserves() {
		if len(r.Left) == 0 {
			continue
		}
		for n := range r.Stands {
			want := api.Reserve{Stands: slices.Clone(r.Stands), Left: slices.Clone(r.Left)[1:]}
			want.Stands[n] = r.Left[0]
			if got, e := bad.Replace(r, n); e != api.OK || !same(got, want) || !bad.Right(got) {
				t.Errorf("Replace(%v, %d): %v, %d; not %v", r, n, got, e, want)
			}
		}
	}
}

// As many times as there are some left, and once more.
func TestReplaceAll(t *testing.T) {
	r, e := bad.New(3, 4, []int{1, 5})
	if e != api.OK {
		t.Fatal(e)
	}
	for i, c := range []struct {
		n    int
		want api.Reserve
	}{
		{0, api.Reserve{Stands: []int{4, 2, 3}, Left: []int{6}}},
		{0, api.Reserve{Stands: []int{6, 2, 3}}},
	} {
		if r, e = bad.Replace(r, c.n); e != api.OK || !same(r, c.want) {
			t.Fatalf("%d: %v, %d; not %v", i, r, e, c.want)
		}
	}
	for n := range 3 {
		if got, e := bad.Replace(r, n); e != api.ErrFull || !same(got, r) {
			t.Errorf("once more, %d: %v, %d", n, got, e)
		}
	}
}

// none is replaced: the error, and the reserve as it is.
func none(t *testing.T, what string, r api.Reserve, n int, want api.Errno) {
	t.Helper()
	if got, e := bad.Replace(r, n); e != want || !same(got, r) {
		t.Errorf("%s: Replace %d: %v, %d; not %v, %d", what, n, got, e, r, want)
	}
}

func TestReplaceErrFull(t *testing.T) {
	for _, r := range rightReserves() {
		r.Left = nil
		for n := range r.Stands {
			none(t, fmt.Sprint(r), r, n, api.ErrFull)
			none(t, fmt.Sprint(r), api.Reserve{Stands: r.Stands, Left: []int{}}, n, api.ErrFull)
		}
	}
}

// Whether any are left, or none.
func TestReplaceErrArg(t *testing.T) {
	for _, r := range rightReserves() {
		for _, n := range noPlaces(r) {
			none(t, fmt.Sprint(r), r, n, api.ErrArg)
			if bare := (api.Reserve{Stands: r.Stands}); len(bare.Stands) > 0 {
				none(t, fmt.Sprint(bare), bare, n, api.ErrArg)
			}
		}
	}
	for what, r := range wrongReserves() {
		for _, n := range []int{-1, 0, 1, 2, len(r.Stands) - 1, len(r.Stands), math.MinInt, math.MaxInt} {
			none(t, what, r, n, api.ErrArg)
		}
	}
}

// Reserves by all their bytes, the sums too.
func TestPutBytes(t *testing.T) {
	for _, c := range []struct {
		r    api.Reserve
		want []byte
	}{
		{api.Reserve{Stands: []int{0, 2, 3}, Left: []int{4}}, []byte{3, 1, 0, 2, 3, 4}},
		{api.Reserve{Stands: []int{0}}, []byte{1, 0, 0}},
		{api.Reserve{Left: []int{254}}, []byte{0, 1, 254}},
		{api.Reserve{Stands: []int{254, 7}, Left: []int{9, 0, 1}}, []byte{2, 3, 254, 7, 9, 0, 1}},
	} {
		if got, e := bad.Put(c.r); e != api.OK || !bytes.Equal(got, sealed(c.want...)) {
			t.Errorf("Put(%v): %x, %d; not %x", c.r, got, e, sealed(c.want...))
		}
	}
}

func TestPut(t *testing.T) {
	for _, r := range rightReserves() {
		if got, e := bad.Put(r); e != api.OK || !bytes.Equal(got, laid(r)) {
			t.Errorf("Put(%v): %x, %d; not %x", r, got, e, laid(r))
		}
	}
}

func TestPutErrArg(t *testing.T) {
	for what, r := range wrongReserves() {
		if got, e := bad.Put(r); e != api.ErrArg || len(got) != 0 {
			t.Errorf("%s: Put: %x, %d", what, got, e)
		}
	}
}

func TestRead(t *testing.T) {
	for _, r := range rightReserves() {
		hold(t, "laid", laid(r), r, api.OK)
	}
	hold(t, "the example", sealed(3, 1, 0, 2, 3, 4), api.Reserve{Stands: []int{0, 2, 3}, Left: []int{4}}, api.OK)
	hold(t, "as many as stand are left", sealed(1, 1, 9, 8), api.Reserve{Stands: []int{9}, Left: []int{8}}, api.OK)
	hold(t, "none stand", sealed(0, 2, 254, 0), api.Reserve{Left: []int{254, 0}}, api.OK)
	hold(t, "none are left", sealed(2, 0, 254, 0), api.Reserve{Stands: []int{254, 0}}, api.OK)
}

// Too few bytes for a sum.
func TestReadErrLong(t *testing.T) {
	refused(t, "nil", nil, api.ErrLong)
	for many := range 4 {
		refused(t, "noughts", make([]byte, many), api.ErrLong)
		refused(t, "ones", bytes.Repeat([]byte{255}, many), api.ErrLong)
		refused(t, "cut", laid(api.Reserve{Stands: []int{1}})[:many], api.ErrLong)
	}
}

// Bytes whose sum isn't that: each bit turned, and bytes taken away, ahead and behind.
func TestReadErrSum(t *testing.T) {
	for _, r := range rightReserves() {
		b := laid(r)
		for at := range 8 * len(b) {
			c := bytes.Clone(b)
			c[at/8] ^= 1 << (at % 8)
			refused(t, "turned", c, api.ErrSum)
		}
		for many := range len(b) {
			want := api.ErrSum
			if many < 4 {
				want = api.ErrLong
			}
			refused(t, "cut behind", b[:many], want)
			refused(t, "cut ahead", b[len(b)-many:], want)
		}
		refused(t, "more behind", slices.Concat(b, []byte{0}), api.ErrSum)
		refused(t, "without its sum", unsealed(r), wantUnsealed(unsealed(r)))
		refused(t, "the sum's lowest first", binary.LittleEndian.AppendUint32(unsealed(r), crc32.ChecksumIEEE(unsealed(r))), api.ErrSum)
	}
	refused(t, "just another sum", []byte{0, 0, 0, 1}, api.ErrSum)
	refused(t, "ones", bytes.Repeat([]byte{255}, 10), api.ErrSum)
}

// wantUnsealed is the error of bytes that have no sum.
func wantUnsealed(b []byte) api.Errno {
	if len(b) < 4 {
		return api.ErrLong
	}
	return api.ErrSum
}

// noReserves are bytes that are no reserve's, each for one cause, ahead of their sum.
func noReserves() map[string][]byte {
	out := map[string][]byte{
		"no bytes":                                 {},
		"0 alone":                                  {0},
		"1 alone":                                  {1},
		"255 alone":                                {255},
		"none stand and none are left":             {0, 0},
		"none stand and none are left, and one":    {0, 0, 5},
		"one stands, and there is none":            {1, 0},
		"one is left, and there is none":           {0, 1},
		"one too few":                              {2, 1, 3, 4},
		"one too few, none left":                   {2, 0, 3},
		"one too many":                             {2, 1, 3, 4, 5, 6},
		"one too many, none left":                  {1, 0, 3, 4},
		"twice, both stand":                        {2, 0, 9, 9},
		"twice, both are left":                     {0, 2, 9, 9},
		"twice across both":                        {1, 1, 9, 9},
		"twice, far apart":                         {2, 2, 0, 1, 2, 0},
		"255 stands":                               {1, 0, 255},
		"255 is left":                              {0, 1, 255},
		"255 among those that stand":               {2, 1, 7, 255, 8},
		"255 among those that are left":            {1, 2, 7, 8, 255},
		"510 are told, and none are there":         {255, 255},
		"256 are told, as many as none by a byte":  {255, 1},
		"256 are told, with 0 numbers, the other":  {1, 255},
		"257 are told, as many as one by a byte":   {128, 129, 7},
		"the numbers ahead of how many there are":  {9, 8, 2, 0},
		"how many there are in all, and they stay": {2, 9, 8},
	}
	all := make([]byte, 256)
	for n := range all {
		all[n] = byte(n)
	}
	out["256 that are there, 255 among them"] = slices.Concat([]byte{128, 128}, all)
	out["256 that are there, one twice"] = slices.Concat([]byte{255, 1}, all[:255], []byte{0})
	out["all 255, and one more"] = slices.Concat([]byte{255, 0}, all)
	out["all but one of 255"] = slices.Concat([]byte{255, 0}, all[:254])
	out["255 that are there, 255 among them"] = slices.Concat([]byte{100, 155}, all[1:])
	out["510 that are there"] = slices.Concat([]byte{255, 255}, all[:255], all[:255])
	return out
}

func TestReadErrForm(t *testing.T) {
	for what, b := range noReserves() {
		refused(t, what, sealed(b...), api.ErrForm)
	}
}

// Where the sum isn't that, and they are none's, that of the sum is told.
func TestReadErrSumAhead(t *testing.T) {
	for what, b := range noReserves() {
		c := sealed(b...)
		c[len(c)-1] ^= 1
		refused(t, what, c, api.ErrSum)
	}
}

// How many stand, and are left, of each two numbers, with few bytes.
func TestReadMany(t *testing.T) {
	for stand := range 256 {
		for left := range 256 {
			for many := range 4 {
				b := sealed(append([]byte{byte(stand), byte(left)}, 7, 5, 6)[:2+many]...)
				if stand+left != many || many == 0 {
					refused(t, "so many told", b, api.ErrForm)
					continue
				}
				l := []int{7, 5, 6}[:many]
				hold(t, "so many told", b, api.Reserve{Stands: l[:stand], Left: l[stand:]}, api.OK)
			}
		}
	}
}

// Whatever bytes there are: what Read tells is what they are, by hand.
func TestReadRandom(t *testing.T) {
	r := rand.New(rand.NewSource(17))
	seen := map[api.Errno]int{}
	for range 40000 {
		b := unsealed(mixed(r.Int63(), r.Intn(5), r.Intn(5)))
		switch r.Intn(4) {
		case 0:
			b[r.Intn(len(b))] = byte(r.Intn(256))
		case 1:
			b[r.Intn(2)] ^= byte(r.Intn(4))
		}
		b = sealed(b...)
		switch r.Intn(5) {
		case 0:
			b[r.Intn(len(b))] ^= 1 << r.Intn(8)
		case 1:
			b = b[:r.Intn(len(b))]
		}
		want, wantErr := reading(b)
		seen[wantErr]++
		if got, e := bad.Read(b); e != wantErr || !same(got, want) {
			t.Fatalf("Read(%x): %v, %d; not %v, %d", b, got, e, want, wantErr)
		}
	}
	for _, e := range []api.Errno{api.OK, api.ErrLong, api.ErrSum, api.ErrForm} {
		if seen[e] < 500 {
			t.Errorf("error %d just %d times", e, seen[e])
		}
	}
}

// P8.3

// Replaced, put and read, again and again: who was replaced never stands again, nor is left.
func TestNeverAgain(t *testing.T) {
	rnd := rand.New(rand.NewSource(19))
	for range 60 {
		blocks, spare := 1+rnd.Intn(20), rnd.Intn(60)
		r, e := bad.New(blocks, spare, rnd.Perm(blocks + spare)[:rnd.Intn(spare+1)])
		if e != api.OK {
			t.Fatal(e)
		}
		was := map[int]bool{}
		for len(r.Left) > 0 {
			n := rnd.Intn(blocks)
			old, e := bad.At(r, n)
			if e != api.OK {
				t.Fatal(e)
			}
			was[old] = true
			if r, e = bad.Replace(r, n); e != api.OK {
				t.Fatal(e)
			}
			r = putAndRead(t, r)
			stands(t, r, was)
		}
		for n := range blocks {
			if q, e := bad.Replace(r, n); e != api.ErrFull || !same(q, r) {
				t.Fatalf("Replace(%v, %d): %v, %d", r, n, q, e)
			}
		}
	}
}

// stands tells of a right reserve where one that was replaced stands or is left.
func stands(t *testing.T, r api.Reserve, was map[int]bool) {
	t.Helper()
	if !bad.Right(r) {
		t.Fatalf("%v: not right", r)
	}
	for n := range r.Stands {
		if got, e := bad.At(r, n); e != api.OK || was[got] {
			t.Fatalf("%v: %d stands again, %d", r, got, e)
		}
	}
	for _, n := range r.Left {
		if was[n] {
			t.Fatalf("%v: %d is left again", r, n)
		}
	}
}

// putAndRead holds that a reserve is read as it was.
func putAndRead(t *testing.T, r api.Reserve) api.Reserve {
	t.Helper()
	b, e := bad.Put(r)
	if e != api.OK {
		t.Fatalf("Put(%v): %d", r, e)
	}
	q, e := bad.Read(b)
	if e != api.OK || !same(q, r) {
		t.Fatalf("Read(%x): %v, %d; not %v", b, q, e, r)
	}
	return q
}

func TestPutRead(t *testing.T) {
	for _, r := range rightReserves() {
		putAndRead(t, r)
	}
	for stand := range 256 {
		for left := range 256 - stand {
			if stand+left > 0 {
				putAndRead(t, mixed(int64(stand), stand, left))
			}
		}
	}
}

// What is read is put as the same bytes again.
func TestReadPut(t *testing.T) {
	for _, r := range rightReserves() {
		q, e := bad.Read(laid(r))
		if e != api.OK {
			t.Fatalf("Read(%x): %d", laid(r), e)
		}
		if b, e := bad.Put(q); e != api.OK || !bytes.Equal(b, laid(r)) {
			t.Errorf("Put(%v): %x, %d; not %x", q, b, e, laid(r))
		}
	}
}

// The document's rules.

// guard is what stands in the spare room of what is handed in.
const guard = 0xE7

// guarded is l with spare room behind it; what comes with it tells whether any of it was changed.
func guarded[T int | byte](l []T) ([]T, func() bool) {
	room := append(slices.Clone(l), slices.Repeat([]T{guard}, 300)...)
	was := slices.Clone(room)
	return room[:len(l)], func() bool { return !slices.Equal(room, was) }
}

// spoil a list, its spare room too.
func spoil[T int | byte](l []T) {
	room := l[:cap(l)]
	for i := range room {
		room[i] ^= 0x5A
	}
}

// answer is what a call answers: lists, and all else as text.
type answer struct {
	numbers [][]int
	bytes   []byte
	text    string
}

// spoil all that was answered.
func (a answer) spoil() {
	for _, l := range a.numbers {
		spoil(l)
	}
	spoil(a.bytes)
}

// tell of an answer by text.
func (a answer) tell() string {
	var b strings.Builder
	for _, l := range a.numbers {
		fmt.Fprintf(&b, "%d %v ", len(l), l)
	}
	fmt.Fprintf(&b, "%x %s", a.bytes, a.text)
	return b.String()
}

// ofReserve is a reserve that was answered.
func ofReserve(r api.Reserve, e api.Errno) answer {
	return answer{numbers: [][]int{r.Stands, r.Left}, text: fmt.Sprint(e)}
}

// calls are those that take a reserve, or a list of bad numbers, which is then the first of both lists.
func calls() map[string]func(a, b []int) answer {
	out := map[string]func(a, b []int) answer{
		"Right": func(a, b []int) answer {
			return answer{text: fmt.Sprint(bad.Right(api.Reserve{Stands: a, Left: b}))}
		},
		"Put": func(a, b []int) answer {
			put, e := bad.Put(api.Reserve{Stands: a, Left: b})
			return answer{bytes: put, text: fmt.Sprint(e)}
		},
	}
	for _, n := range []int{-1, 0, 1, 2, 200, math.MaxInt} {
		out[fmt.Sprint("At ", n)] = func(a, b []int) answer {
			return answer{text: fmt.Sprint(bad.At(api.Reserve{Stands: a, Left: b}, n))}
		}
		out[fmt.Sprint("Replace ", n)] = func(a, b []int) answer {
			return ofReserve(bad.Replace(api.Reserve{Stands: a, Left: b}, n))
		}
	}
	for _, many := range [][2]int{{0, 1}, {1, 0}, {1, 254}, {3, 2}, {100, 100}, {255, 0}, {255, 1}} {
		out[fmt.Sprint("New ", many)] = func(a, b []int) answer {
			return ofReserve(bad.New(many[0], many[1], a))
		}
	}
	return out
}

// ruled are the reserves that are handed in, right ones and others.
func ruled() []api.Reserve {
	l := rightReserves()
	for _, r := range wrongReserves() {
		l = append(l, r)
	}
	return l
}

// What is handed in is not changed, its spare room neither, not even by who gets the answer.
func TestHandedIn(t *testing.T) {
	for name, call := range calls() {
		for _, r := range ruled() {
			a, changedA := guarded(r.Stands)
			b, changedB := guarded(r.Left)
			out := call(a, b)
			if changedA() || changedB() {
				t.Fatalf("%s changes %v", name, r)
			}
			out.spoil()
			if changedA() || changedB() {
				t.Fatalf("%s hands out %v", name, r)
			}
		}
	}
}

// What is answered stays as it is, whatever is done to what was handed in, or to another answer, and is the same again.
func TestAnswered(t *testing.T) {
	for name, call := range calls() {
		for _, r := range ruled() {
			a, _ := guarded(r.Stands)
			b, _ := guarded(r.Left)
			first, second := call(a, b), call(a, b)
			want := first.tell()
			second.spoil()
			spoil(a)
			spoil(b)
			if first.tell() != want {
				t.Fatalf("%s keeps of %v", name, r)
			}
			if again := call(slices.Clip(r.Stands), slices.Clip(r.Left)); again.tell() != want {
				t.Fatalf("%s of %v: not the same again", name, r)
			}
		}
	}
}

// readable are what is handed to Read.
func readable() [][]byte {
	l := [][]byte{nil, {}, {0, 0, 0}, {0, 0, 0, 0}, {0, 0, 0, 1}}
	for _, r := range rightReserves() {
		l = append(l, laid(r), laid(r)[1:])
	}
	for _, b := range noReserves() {
		l = append(l, sealed(b...))
	}
	return l
}

// The same of the bytes that are read.
func TestReadRules(t *testing.T) {
	for _, b := range readable() {
		in, changed := guarded(b)
		first, second := ofReserve(bad.Read(in)), ofReserve(bad.Read(in))
		want := first.tell()
		second.spoil()
		if changed() || first.tell() != want {
			t.Fatalf("Read changes or hands out %x", b)
		}
		spoil(in)
		if first.tell() != want {
			t.Fatalf("Read keeps of %x", b)
		}
		if again := ofReserve(bad.Read(b)); again.tell() != want {
			t.Fatalf("Read(%x): not the same again", b)
		}
	}
}

// apart holds that neither list of a reserve, with its spare room, is a part of the other.
func apart(t *testing.T, what string, r api.Reserve) {
	t.Helper()
	stands, left := slices.Clone(r.Stands), slices.Clone(r.Left)
	spoil(r.Stands)
	if !slices.Equal(r.Left, left) {
		t.Errorf("%s: Left is a part of Stands", what)
	}
	spoil(r.Stands)
	spoil(r.Left)
	if !slices.Equal(r.Stands, stands) {
		t.Errorf("%s: Stands is a part of Left", what)
	}
}

// No two lists of an answer share any, even where those that were handed in do.
func TestApart(t *testing.T) {
	for _, many := range [][2]int{{1, 0}, {1, 1}, {3, 2}, {2, 7}, {100, 155}} {
		r, _ := bad.New(many[0], many[1], []int{90})
		apart(t, "New", r)
		all := upTo(0, many[0]+many[1])
		one := api.Reserve{Stands: all[:many[0]], Left: all[many[0]:]}
		for _, n := range []int{-1, 0, many[0]} {
			r, _ := bad.Replace(one, n)
			apart(t, "Replace", r)
		}
		bare, _ := bad.Replace(api.Reserve{Stands: all, Left: all[len(all):]}, 0)
		apart(t, "Replace with none left", bare)
		wrong, _ := bad.Replace(api.Reserve{Stands: all, Left: all}, 0)
		apart(t, "Replace of what isn't right", wrong)
		q, _ := bad.Read(laid(one))
		apart(t, "Read", q)
	}
}
