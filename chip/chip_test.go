package chip_test

import (
	"bytes"
	"fmt"
	"math"
	"math/rand"
	"slices"
	"testing"

	"byway/api"
	"byway/chip"
)

// What the tests hold the layer against: bytes bit by bit, and chips that are laid by hand.

// limit of what a chip counts.
const limit = 1 << 40

// partly is what a byte becomes where a mask's bits alone become what they should: of a page the others are set, of a block that is erased they stay.
func partly(mask, should, other byte) byte {
	var b byte
	for bit := range 8 {
		from := other
		if mask>>bit&1 == 1 {
			from = should
		}
		b |= from & (1 << bit)
	}
	return b
}

// programmed is what a page becomes of p.
func programmed(p []byte, mask byte) []byte {
	out := bytes.Clone(p)
	for i := range out {
		out[i] = partly(mask, p[i], 255)
	}
	return out
}

// erased is what a page becomes that was p.
func erased(p []byte, mask byte) []byte {
	out := bytes.Clone(p)
	for i := range out {
		out[i] = partly(mask, 255, p[i])
	}
	return out
}

// same tells whether two chips are; a list is nil or empty alike.
func same(a, b api.Chip) bool {
	if a.Pages != b.Pages || a.Size != b.Size || a.Ops != b.Ops || a.Off != b.Off || !slices.Equal(a.Faults, b.Faults) {
		return false
	}
	return slices.EqualFunc(a.Blocks, b.Blocks, func(x, y api.Block) bool {
		return x.Used == y.Used && x.Worn == y.Worn && x.Bad == y.Bad && slices.EqualFunc(x.Pages, y.Pages, bytes.Equal)
	})
}

// clone is a chip of its own memory.
func clone(c api.Chip) api.Chip {
	return changed(c, func(*api.Chip) {})
}

// changed is such a chip with a change.
func changed(c api.Chip, change func(c *api.Chip)) api.Chip {
	out := api.Chip{Pages: c.Pages, Size: c.Size, Ops: c.Ops, Off: c.Off, Faults: append([]api.Fault{}, c.Faults...)}
	for _, b := range c.Blocks {
		pages := [][]byte{}
		for _, p := range b.Pages {
			pages = append(pages, append([]byte{}, p...))
		}
		out.Blocks = append(out.Blocks, api.Block{Pages: pages, Used: b.Used, Worn: b.Worn, Bad: b.Bad})
	}
	change(&out)
	return out
}

// told is a chip in few words.
func told(c api.Chip) string {
	if len(fmt.Sprint(c)) > 1000 {
		return fmt.Sprintf("%d blocks, %d pages, %d bytes, Ops %d, Off %v", len(c.Blocks), c.Pages, c.Size, c.Ops, c.Off)
	}
	return fmt.Sprint(c)
}

// hold that a call answered a chip and an error.
func hold(t *testing.T, what string, got api.Chip, e api.Errno, want api.Chip, wantErr api.Errno) {
	t.Helper()
	if e != wantErr {
		t.Errorf("%s: error %d, not %d", what, e, wantErr)
	}
	if !same(got, want) {
		t.Errorf("%s: %s, not %s", what, told(got), told(want))
	}
}

// Inputs.

// laid is a chip all of whose bytes are unlike its neighbours, none of them programmed.
func laid(blocks, pages, size int) api.Chip {
	c := api.Chip{Pages: pages, Size: size}
	for i := range blocks {
		var b api.Block
		for n := range pages {
			p := make([]byte, size)
			for at := range p {
				p[at] = byte(101*i + 37*n + 13*at)
			}
			b.Pages = append(b.Pages, p)
		}
		c.Blocks = append(c.Blocks, b)
	}
	return c
}

// used is a chip of 3 blocks, of 4 pages of 3 bytes: one block is unused, one half used, and one full.
func used() api.Chip {
	c := laid(3, 4, 3)
	c.Blocks[1].Used, c.Blocks[2].Used = 2, 4
	c.Blocks[0].Worn, c.Blocks[1].Worn, c.Blocks[2].Worn = 7, 0, 9
	c.Ops = 50
	return c
}

// manyFaults are n of them, none of which is of a number from 0 to limit.
func manyFaults(n int) []api.Fault {
	var l []api.Fault
	for i := range n {
		l = append(l, api.Fault{Op: -1 - i, Fail: i%2 == 0, Cut: i%3 == 0, Mask: byte(i)})
	}
	return l
}

// text are n bytes.
func text(n int) []byte {
	p := make([]byte, n)
	for i := range p {
		p[i] = byte(0x5A + 29*i)
	}
	return p
}

// far are numbers that are far beyond any limit.
var far = []int{math.MinInt, math.MinInt + 1, -limit, -1 << 32, -100, -1, 1 << 8, 1 << 16, 1 << 32, 1<<32 + 1, limit + 1, math.MaxInt - 1, math.MaxInt}

// masks are of no bits, of some, of all.
var masks = []byte{0, 1, 0x0F, 0x55, 0x80, 0xAA, 0xF0, 0xFE, 255}

// shapes are the least chip, the greatest one, those with one limit alone, and one that is ordinary.
var shapes = [][3]int{{1, 1, 1}, {32, 16, 256}, {32, 1, 1}, {1, 16, 1}, {1, 1, 256}, {31, 15, 255}, {2, 2, 2}, {5, 4, 24}}

// wrongChips are chips that aren't right, each for one cause.
func wrongChips() map[string]api.Chip {
	out := map[string]api.Chip{
		"nothing":        {},
		"no blocks":      laid(0, 4, 3),
		"33 blocks":      laid(33, 4, 3),
		"300 blocks":     laid(300, 1, 1),
		"no pages":       laid(3, 0, 3),
		"17 pages":       laid(3, 17, 3),
		"no bytes":       laid(3, 4, 0),
		"257 bytes":      laid(3, 4, 257),
		"Pages alone":    {Pages: 4},
		"shape, no more": {Pages: 4, Size: 3},
	}
	wrong := func(what string, change func(c *api.Chip)) {
		out[what] = changed(used(), change)
	}
	for _, n := range append([]int{0, 1, 3, 5, 17}, far...) {
		wrong(fmt.Sprint("Pages ", n), func(c *api.Chip) { c.Pages = n })
	}
	for _, n := range append([]int{0, 1, 2, 4, 257}, far...) {
		wrong(fmt.Sprint("Size ", n), func(c *api.Chip) { c.Size = n })
	}
	wrong("an empty list of blocks", func(c *api.Chip) { c.Blocks = c.Blocks[:0] })
	wrong("65 faults", func(c *api.Chip) { c.Faults = manyFaults(65) })
	wrong("1000 faults", func(c *api.Chip) { c.Faults = manyFaults(1000) })
	for _, n := range []int{-1, limit + 1, math.MinInt, math.MaxInt} {
		wrong(fmt.Sprint("Ops ", n), func(c *api.Chip) { c.Ops = n })
		for i := range 3 {
			wrong(fmt.Sprintf("Worn %d of block %d", n, i), func(c *api.Chip) { c.Blocks[i].Worn = n })
		}
	}
	for i := range 3 {
		b := func(c *api.Chip) *api.Block { return &c.Blocks[i] }
		for _, n := range append([]int{-2, 5, 6, 16}, far...) {
			wrong(fmt.Sprintf("Used %d of block %d", n, i), func(c *api.Chip) { b(c).Used = n })
		}
		wrong(fmt.Sprint("no pages in block ", i), func(c *api.Chip) { b(c).Pages = nil })
		wrong(fmt.Sprint("a page less in block ", i), func(c *api.Chip) { b(c).Pages = b(c).Pages[:3] })
		wrong(fmt.Sprint("a page more in block ", i), func(c *api.Chip) { b(c).Pages = append(b(c).Pages, text(3)) })
		for n := range 4 {
			at := fmt.Sprintf("page %d of block %d", n, i)
			wrong("no bytes in "+at, func(c *api.Chip) { b(c).Pages[n] = nil })
			wrong("a byte less in "+at, func(c *api.Chip) { b(c).Pages[n] = text(2) })
			wrong("a byte more in "+at, func(c *api.Chip) { b(c).Pages[n] = text(4) })
			wrong("many bytes in "+at, func(c *api.Chip) { b(c).Pages[n] = text(300) })
		}
	}
	return out
}

// rightChips are chips that are right, at the chapter's edges.
func rightChips() map[string]api.Chip {
	out := map[string]api.Chip{"used": used()}
	right := func(what string, change func(c *api.Chip)) {
		out[what] = changed(used(), change)
	}
	for _, s := range shapes {
		c := laid(s[0], s[1], s[2])
		out[fmt.Sprint("unused, ", s)] = c
		out[fmt.Sprint("full, ", s)] = changed(c, func(c *api.Chip) {
			for i := range c.Blocks {
				c.Blocks[i].Used = c.Pages
			}
		})
	}
	for _, n := range []int{0, 1, limit - 1, limit} {
		right(fmt.Sprint("Ops ", n), func(c *api.Chip) { c.Ops = n })
		right(fmt.Sprint("Worn ", n), func(c *api.Chip) { c.Blocks[2].Worn = n })
	}
	for n := range 5 {
		right(fmt.Sprint("Used ", n), func(c *api.Chip) { c.Blocks[0].Used = n })
	}
	right("off", func(c *api.Chip) { c.Off = true })
	right("bad", func(c *api.Chip) { c.Blocks[0].Bad, c.Blocks[1].Bad, c.Blocks[2].Bad = true, true, true })
	right("64 faults", func(c *api.Chip) { c.Faults = manyFaults(64) })
	for _, n := range far {
		right(fmt.Sprint("a fault of the number ", n), func(c *api.Chip) { c.Faults = []api.Fault{{Op: n, Fail: true}} })
	}
	right("faults of one number", func(c *api.Chip) { c.Faults = []api.Fault{{Op: 3}, {Op: 3, Fail: true, Cut: true, Mask: 9}, {Op: 3}} })
	return out
}

// Calls.

// call asks one thing of a chip; one that answers bytes leaves the chip as it is.
type call struct {
	name string
	ask  func(c api.Chip) (api.Chip, []byte, api.Errno)
}

func reading(block, page int) call {
	return call{fmt.Sprintf("Read(%d, %d)", block, page), func(c api.Chip) (api.Chip, []byte, api.Errno) {
		p, e := chip.Read(c, block, page)
		return c, p, e
	}}
}

func programming(block, page int, p []byte) call {
	return call{fmt.Sprintf("Program(%d, %d, %d bytes)", block, page, len(p)), func(c api.Chip) (api.Chip, []byte, api.Errno) {
		d, e := chip.Program(c, block, page, p)
		return d, nil, e
	}}
}

func erasing(block int) call {
	return call{fmt.Sprintf("Erase(%d)", block), func(c api.Chip) (api.Chip, []byte, api.Errno) {
		d, e := chip.Erase(c, block)
		return d, nil, e
	}}
}

func marking(block int) call {
	return call{fmt.Sprintf("Mark(%d)", block), func(c api.Chip) (api.Chip, []byte, api.Errno) {
		d, e := chip.Mark(c, block)
		return d, nil, e
	}}
}

func turning(faults []api.Fault) call {
	return call{fmt.Sprintf("On(%d faults)", len(faults)), func(c api.Chip) (api.Chip, []byte, api.Errno) {
		d, e := chip.On(c, faults)
		return d, nil, e
	}}
}

// refused holds that a call tells this error, and nothing else, and leaves the chip as it is.
func refused(t *testing.T, what string, c api.Chip, a call, want api.Errno) {
	t.Helper()
	was := clone(c)
	got, p, e := a.ask(c)
	hold(t, what+": "+a.name, got, e, was, want)
	if len(p) != 0 {
		t.Errorf("%s: %s: bytes %v", what, a.name, p)
	}
}

// onBlock are calls on a block and a page; of Program with bytes of so many.
func onBlock(block, page, size int) []call {
	return []call{reading(block, page), programming(block, page, text(size)), erasing(block), marking(block)}
}

// P6.1

func TestRight(t *testing.T) {
	for what, c := range rightChips() {
		if !chip.Right(c) {
			t.Errorf("%s: not right", what)
		}
	}
	for what, c := range wrongChips() {
		if chip.Right(c) {
			t.Errorf("%s: right", what)
		}
	}
}

func TestNew(t *testing.T) {
	for _, s := range shapes {
		want := api.Chip{Pages: s[1], Size: s[2]}
		for range s[0] {
			want.Blocks = append(want.Blocks, api.Block{Pages: slices.Repeat([][]byte{bytes.Repeat([]byte{255}, s[2])}, s[1])})
		}
		got, e := chip.New(s[0], s[1], s[2])
		hold(t, fmt.Sprint("New", s), got, e, want, api.OK)
		if !chip.Right(got) {
			t.Errorf("New%v: not right", s)
		}
	}
}

func TestNewEveryNumber(t *testing.T) {
	for n := -3; n < 300; n++ {
		for i, most := range []int{32, 16, 256} {
			s := [3]int{2, 2, 2}
			s[i] = n
			want := api.ErrArg
			if 1 <= n && n <= most {
				want = api.OK
			}
			got, e := chip.New(s[0], s[1], s[2])
			if e != want || chip.Right(got) != (want == api.OK) {
				t.Errorf("New%v: %s, %d", s, told(got), e)
			}
		}
	}
}

func TestNewErrArg(t *testing.T) {
	wrong := [][3]int{{0, 0, 0}, {33, 17, 257}, {-1, -1, -1}, {0, 16, 256}, {32, 0, 256}, {32, 16, 0}, {33, 1, 1}, {1, 17, 1}, {1, 1, 257}}
	for _, n := range far {
		wrong = append(wrong, [3]int{n, n, n}, [3]int{n, 1, 1}, [3]int{1, n, 1})
		if n != 256 {
			wrong = append(wrong, [3]int{1, 1, n})
		}
	}
	for _, s := range wrong {
		got, e := chip.New(s[0], s[1], s[2])
		hold(t, fmt.Sprint("New", s), got, e, api.Chip{}, api.ErrArg)
	}
}

// Each page is of its own memory.
func TestNewApart(t *testing.T) {
	c, _ := chip.New(3, 3, 3)
	for i := range 3 {
		for n := range 3 {
			copy(c.Blocks[i].Pages[n], []byte{byte(i), byte(n), 77})
		}
	}
	for i := range 3 {
		for n := range 3 {
			if p := c.Blocks[i].Pages[n]; !bytes.Equal(p, []byte{byte(i), byte(n), 77}) {
				t.Errorf("page %d of block %d: %v", n, i, p)
			}
		}
	}
}

// Every page is read, whether it was programmed, or its block is bad.
func TestRead(t *testing.T) {
	for what, c := range rightChips() {
		c.Off = false
		for i, b := range c.Blocks {
			for n, want := range b.Pages {
				if p, e := chip.Read(c, i, n); e != api.OK || !bytes.Equal(p, want) {
					t.Errorf("%s: Read(%d, %d): %v, %d", what, i, n, p, e)
				}
			}
		}
	}
}

// No such block, and no such page, below and above: each call tells it ahead of that the chip is off.
func TestNoSuchPlace(t *testing.T) {
	for what, c := range map[string]api.Chip{
		"on":  used(),
		"off": changed(used(), func(c *api.Chip) { c.Off = true }),
		"bad": changed(used(), func(c *api.Chip) { c.Blocks[0].Bad, c.Blocks[2].Bad = true, true }),
	} {
		for _, block := range append([]int{3, 4, 32}, far...) {
			for _, page := range []int{0, 3, -1, 4} {
				for _, a := range onBlock(block, page, 3) {
					refused(t, what, c, a, api.ErrArg)
				}
			}
		}
		for _, page := range append([]int{4, 5, 16}, far...) {
			for block := range 3 {
				refused(t, what, c, reading(block, page), api.ErrArg)
				refused(t, what, c, programming(block, page, text(3)), api.ErrArg)
			}
		}
	}
	for _, s := range shapes {
		c := laid(s[0], s[1], s[2])
		for _, a := range onBlock(s[0], 0, s[2]) {
			refused(t, fmt.Sprint(s), c, a, api.ErrArg)
		}
		refused(t, fmt.Sprint(s), c, reading(s[0]-1, s[1]), api.ErrArg)
		refused(t, fmt.Sprint(s), c, programming(s[0]-1, s[1], text(s[2])), api.ErrArg)
	}
}

// A chip that isn't right is told ahead of all else.
func TestChipNotRight(t *testing.T) {
	for what, c := range wrongChips() {
		off := changed(c, func(c *api.Chip) { c.Off = true })
		calls := slices.Concat(onBlock(0, 0, c.Size&255), onBlock(1, 2, 3), onBlock(2, 3, 2), onBlock(-1, 0, 3), onBlock(0, 9, 3))
		calls = append(calls, turning(nil), turning(manyFaults(64)), turning(manyFaults(65)))
		for _, a := range calls {
			refused(t, what, c, a, api.ErrArg)
			refused(t, what+", off", off, a, api.ErrArg)
		}
	}
}

// A chip that is off tells it, but by On; and is as it is.
func TestOff(t *testing.T) {
	for what, c := range rightChips() {
		c.Off = true
		for i, b := range c.Blocks {
			refused(t, what, c, reading(i, c.Pages-1), api.ErrState)
			refused(t, what, c, marking(i), api.ErrState)
			if c.Ops < limit {
				refused(t, what, c, programming(i, min(b.Used, c.Pages-1), text(c.Size)), api.ErrState)
			}
			if c.Ops < limit && b.Worn < limit {
				refused(t, what, c, erasing(i), api.ErrState)
			}
		}
	}
}

func TestOn(t *testing.T) {
	lists := [][]api.Fault{nil, {}, {{}}, {{Op: 1, Cut: true}}, {{Op: 50, Fail: true, Mask: 3}, {Op: 50, Cut: true}}, manyFaults(63), manyFaults(64)}
	for what, c := range rightChips() {
		for _, off := range []bool{false, true} {
			c.Off = off
			for i, l := range lists {
				got, e := chip.On(c, l)
				want := changed(c, func(c *api.Chip) { c.Off, c.Faults = false, l })
				hold(t, fmt.Sprintf("%s, off %v, list %d", what, off, i), got, e, want, api.OK)
			}
			refused(t, what, c, turning(manyFaults(65)), api.ErrArg)
			refused(t, what, c, turning(manyFaults(2000)), api.ErrArg)
		}
	}
}

// The faults that were there are gone, and those that are new strike.
func TestOnFaults(t *testing.T) {
	c := used()
	c.Faults = []api.Fault{{Op: 50, Cut: true}, {Op: 51, Fail: true}}
	d, e := chip.On(c, []api.Fault{{Op: 51, Cut: true, Mask: 255}})
	if e != api.OK {
		t.Fatal(e)
	}
	d, e = chip.Erase(d, 0)
	if e != api.OK || d.Off {
		t.Errorf("Erase: %s, %d", told(d), e)
	}
	d, e = chip.Erase(d, 0)
	if e != api.ErrState || !d.Off {
		t.Errorf("Erase: %s, %d", told(d), e)
	}
}

// P6.2

// The chapter's example.
func TestTwoPages(t *testing.T) {
	c, _ := chip.New(1, 2, 2)
	refused(t, "page 1 ahead of page 0", c, programming(0, 1, []byte{1, 2}), api.ErrWorn)
	for n := range 2 {
		next, e := chip.Program(c, 0, n, []byte{byte(n), 9})
		hold(t, fmt.Sprint("page ", n), next, e, changed(c, func(c *api.Chip) {
			c.Blocks[0].Pages[n], c.Blocks[0].Used, c.Ops = []byte{byte(n), 9}, n+1, n+1
		}), api.OK)
		c = next
	}
	refused(t, "full", c, programming(0, 0, []byte{1, 2}), api.ErrWorn)
	refused(t, "full", c, programming(0, 1, []byte{1, 2}), api.ErrWorn)
	refused(t, "full", c, programming(0, 2, []byte{1, 2}), api.ErrArg)
	next, e := chip.Erase(c, 0)
	blank := []byte{255, 255}
	hold(t, "Erase", next, e, api.Chip{Pages: 2, Size: 2, Ops: 3, Blocks: []api.Block{{Pages: [][]byte{blank, blank}, Worn: 1}}}, api.OK)
	again, e := chip.Program(next, 0, 0, []byte{7, 8})
	hold(t, "anew", again, e, api.Chip{Pages: 2, Size: 2, Ops: 4, Blocks: []api.Block{{Pages: [][]byte{{7, 8}, blank}, Used: 1, Worn: 1}}}, api.OK)
}

// Of chips of each shape each block's next page becomes what is given, whatever stands there.
func TestProgram(t *testing.T) {
	for what, c := range rightChips() {
		c.Off = false
		for i, b := range c.Blocks {
			if b.Bad || b.Used == c.Pages || c.Ops == limit {
				continue
			}
			for _, p := range [][]byte{make([]byte, c.Size), bytes.Repeat([]byte{255}, c.Size), text(c.Size)} {
				got, e := chip.Program(c, i, b.Used, p)
				hold(t, fmt.Sprintf("%s, block %d", what, i), got, e, changed(c, func(c *api.Chip) {
					c.Blocks[i].Pages[b.Used] = p
					c.Blocks[i].Used++
					c.Ops++
				}), api.OK)
			}
		}
	}
}

func TestErase(t *testing.T) {
	for what, c := range rightChips() {
		c.Off = false
		for i, b := range c.Blocks {
			if b.Bad || b.Worn == limit || c.Ops == limit {
				continue
			}
			got, e := chip.Erase(c, i)
			hold(t, fmt.Sprintf("%s, block %d", what, i), got, e, changed(c, func(c *api.Chip) {
				for n := range c.Pages {
					c.Blocks[i].Pages[n] = bytes.Repeat([]byte{255}, c.Size)
				}
				c.Blocks[i].Used = 0
				c.Blocks[i].Worn++
				c.Ops++
			}), api.OK)
		}
	}
}

// A block is marked, be it bad already, and whatever was counted.
func TestMark(t *testing.T) {
	for what, c := range rightChips() {
		c.Off = false
		for i := range c.Blocks {
			want := changed(c, func(c *api.Chip) { c.Blocks[i].Bad = true })
			got, e := chip.Mark(c, i)
			hold(t, fmt.Sprintf("%s, block %d", what, i), got, e, want, api.OK)
			got, e = chip.Mark(got, i)
			hold(t, fmt.Sprintf("%s, block %d, twice", what, i), got, e, want, api.OK)
		}
	}
}

// Bytes that are too few, or too many, are told ahead of that the chip is off, the block bad, or the page not the next one.
func TestProgramSize(t *testing.T) {
	for _, s := range shapes {
		for _, n := range []int{0, s[2] - 1, s[2] + 1, 2 * s[2], s[2] + 256, 1 << 16} {
			c := laid(s[0], s[1], s[2])
			last := s[0] - 1
			refused(t, fmt.Sprint(s), c, programming(last, 0, text(n)), api.ErrArg)
			refused(t, fmt.Sprint(s, ", not next"), c, programming(last, s[1]-1, text(n)), api.ErrArg)
			c.Blocks[last].Bad = true
			refused(t, fmt.Sprint(s, ", bad"), c, programming(last, 0, text(n)), api.ErrArg)
			c.Off = true
			refused(t, fmt.Sprint(s, ", off"), c, programming(last, 0, text(n)), api.ErrArg)
		}
	}
	refused(t, "nil", used(), programming(1, 2, nil), api.ErrArg)
}

// A page that isn't the next one: each one but that, ahead of it and behind it; what strikes doesn't.
func TestProgramNotNext(t *testing.T) {
	for _, faults := range [][]api.Fault{nil, {{Op: 50, Cut: true}}, {{Op: 50, Fail: true}}} {
		for u := range 5 {
			for page := range 4 {
				if page == u {
					continue
				}
				c := changed(used(), func(c *api.Chip) { c.Blocks[1].Used, c.Faults = u, faults })
				refused(t, fmt.Sprint("Used ", u), c, programming(1, page, text(3)), api.ErrWorn)
			}
		}
	}
}

// A block that is bad is neither programmed nor erased; what strikes doesn't.
func TestBad(t *testing.T) {
	for _, faults := range [][]api.Fault{nil, {{Op: 50, Cut: true, Mask: 1}}, {{Op: 50, Fail: true}}} {
		for i := range 3 {
			c := changed(used(), func(c *api.Chip) { c.Blocks[i].Bad, c.Faults = true, faults })
			for page := range 4 {
				refused(t, "bad", c, programming(i, page, text(3)), api.ErrWorn)
			}
			refused(t, "bad", c, erasing(i), api.ErrWorn)
		}
	}
}

// Another block's being bad, full or worn is nothing to a block.
func TestOthersBad(t *testing.T) {
	c := changed(used(), func(c *api.Chip) {
		c.Blocks[0].Bad, c.Blocks[0].Worn = true, limit
		c.Blocks[2].Bad, c.Blocks[2].Worn = true, limit
	})
	if _, e := chip.Program(c, 1, 2, text(3)); e != api.OK {
		t.Error(e)
	}
	if _, e := chip.Erase(c, 1); e != api.OK {
		t.Error(e)
	}
}

// The last operation is that of the number 2^40 - 1, and the last time a block is erased that which makes Worn 2^40.
func TestCounts(t *testing.T) {
	c := changed(used(), func(c *api.Chip) { c.Ops, c.Blocks[1].Worn = limit-1, limit-1 })
	for _, a := range []call{programming(1, 2, text(3)), erasing(1)} {
		got, _, e := a.ask(c)
		if e != api.OK || got.Ops != limit || !chip.Right(got) {
			t.Errorf("%s: %s, %d", a.name, told(got), e)
		}
	}
	worn := changed(used(), func(c *api.Chip) { c.Blocks[1].Worn = limit })
	if _, e := chip.Program(worn, 1, 2, text(3)); e != api.OK {
		t.Error("Program where Worn is 2^40:", e)
	}
	// Told ahead of that the chip is off, the block bad, or the page not the next one.
	for _, change := range []func(c *api.Chip){
		func(*api.Chip) {},
		func(c *api.Chip) { c.Off = true },
		func(c *api.Chip) { c.Blocks[1].Bad = true },
		func(c *api.Chip) { c.Blocks[1].Used = 0 },
		func(c *api.Chip) { c.Faults = []api.Fault{{Op: limit, Cut: true}, {Op: 50, Cut: true}} },
	} {
		d := changed(used(), change)
		d.Blocks[1].Worn = limit
		refused(t, "Worn 2^40", d, erasing(1), api.ErrArg)
		d.Blocks[1].Worn, d.Ops = 3, limit
		refused(t, "Ops 2^40", d, erasing(1), api.ErrArg)
		refused(t, "Ops 2^40", d, programming(1, 2, text(3)), api.ErrArg)
	}
}

// faultLists are lists of faults, and which of them strikes the operation of the number n (-1: none).
func faultLists(n int, mask byte) []struct {
	l      []api.Fault
	struck int
} {
	fail, cut := api.Fault{Op: n, Fail: true, Mask: mask}, api.Fault{Op: n, Cut: true, Mask: mask}
	both, neither := api.Fault{Op: n, Fail: true, Cut: true, Mask: mask}, api.Fault{Op: n, Mask: mask}
	ahead, behind := api.Fault{Op: n - 1, Cut: true, Mask: mask}, api.Fault{Op: n + 1, Fail: true, Mask: mask}
	other, minus := api.Fault{Op: n, Fail: true, Cut: true, Mask: ^mask}, api.Fault{Op: -n - 1, Cut: true, Mask: mask}
	return []struct {
		l      []api.Fault
		struck int
	}{
		{nil, -1},
		{[]api.Fault{fail}, 0},
		{[]api.Fault{cut}, 0},
		{[]api.Fault{both}, 0},
		{[]api.Fault{neither}, -1},
		{[]api.Fault{ahead}, -1},
		{[]api.Fault{behind}, -1},
		{[]api.Fault{minus}, -1},
		{[]api.Fault{ahead, behind, minus}, -1},
		{[]api.Fault{ahead, behind, fail, behind}, 2},
		{[]api.Fault{behind, ahead, cut}, 2},
		{[]api.Fault{fail, cut}, 0},
		{[]api.Fault{cut, fail}, 0},
		{[]api.Fault{fail, other}, 0},
		{[]api.Fault{cut, other, other}, 0},
		{[]api.Fault{other, fail}, 0},
		{[]api.Fault{neither, fail}, -1},
		{[]api.Fault{neither, cut, both}, -1},
		{[]api.Fault{ahead, neither, other}, -1},
		{append(manyFaults(63), fail), 63},
		{append(manyFaults(63), cut), 63},
		{append(manyFaults(62), neither, cut), -1},
	}
}

// struckBy is a chip behind an operation by which a fault strikes, and its error.
func struckBy(c *api.Chip, f api.Fault) api.Errno {
	if f.Cut {
		c.Off = true
		return api.ErrState
	}
	return api.ErrWorn
}

func TestProgramFaults(t *testing.T) {
	given := []byte{0, 0x3C, 0xC5}
	for _, number := range []int{0, 1, 50, limit - 1} {
		for _, mask := range masks {
			for i, f := range faultLists(number, mask) {
				c := changed(used(), func(c *api.Chip) { c.Ops, c.Faults = number, f.l })
				e, kept := api.OK, byte(255)
				want := changed(c, func(c *api.Chip) {
					c.Ops++
					c.Blocks[1].Used++
					if f.struck >= 0 {
						e, kept = struckBy(c, f.l[f.struck]), f.l[f.struck].Mask
					}
					c.Blocks[1].Pages[2] = programmed(given, kept)
				})
				got, gotErr := chip.Program(c, 1, 2, given)
				hold(t, fmt.Sprintf("number %d, mask %x, list %d", number, mask, i), got, gotErr, want, e)
			}
		}
	}
}

func TestEraseFaults(t *testing.T) {
	for _, number := range []int{0, 1, 50, limit - 1} {
		for _, mask := range masks {
			for i, f := range faultLists(number, mask) {
				for block := range 3 {
					c := changed(used(), func(c *api.Chip) { c.Ops, c.Faults = number, f.l })
					e, kept, left := api.OK, byte(255), 0
					want := changed(c, func(c *api.Chip) {
						c.Ops++
						c.Blocks[block].Worn++
						if f.struck >= 0 {
							e, kept, left = struckBy(c, f.l[f.struck]), f.l[f.struck].Mask, 4
						}
						c.Blocks[block].Used = left
						for n, p := range c.Blocks[block].Pages {
							c.Blocks[block].Pages[n] = erased(p, kept)
						}
					})
					got, gotErr := chip.Erase(c, block)
					hold(t, fmt.Sprintf("number %d, mask %x, list %d, block %d", number, mask, i, block), got, gotErr, want, e)
				}
			}
		}
	}
}

// What a fault leaves of each byte, by each mask.
func TestEveryMask(t *testing.T) {
	c, _ := chip.New(1, 2, 256)
	for at := range 256 {
		c.Blocks[0].Pages[1][at] = byte(at)
	}
	given := bytes.Clone(c.Blocks[0].Pages[1])
	for mask := range 256 {
		d, _ := chip.On(c, []api.Fault{{Op: 0, Fail: true, Mask: byte(mask)}})
		got, e := chip.Program(d, 0, 0, given)
		if e != api.ErrWorn || !bytes.Equal(got.Blocks[0].Pages[0], programmed(given, byte(mask))) {
			t.Errorf("programmed, mask %x: %d", mask, e)
		}
		got, e = chip.Erase(d, 0)
		if e != api.ErrWorn || !bytes.Equal(got.Blocks[0].Pages[1], erased(given, byte(mask))) {
			t.Errorf("erased, mask %x: %d", mask, e)
		}
	}
}

// One failure behind the other: what failed is full till it is erased, and what was cut goes on when it is on again.
func TestFailAndGoOn(t *testing.T) {
	c, _ := chip.New(1, 3, 2)
	c, _ = chip.On(c, []api.Fault{{Op: 1, Fail: true, Mask: 0xF0}, {Op: 2, Fail: true, Mask: 0x0F}, {Op: 4, Cut: true}, {Op: 5, Cut: true}})
	var e api.Errno
	steps := []struct {
		a    call
		e    api.Errno
		used int
		off  bool
		page [2]byte
	}{
		{programming(0, 0, []byte{1, 2}), api.OK, 1, false, [2]byte{1, 2}},
		{programming(0, 1, []byte{1, 2}), api.ErrWorn, 2, false, [2]byte{1, 2}},
		{erasing(0), api.ErrWorn, 3, false, [2]byte{0x0F, 0x0F}},
		{programming(0, 0, []byte{1, 2}), api.ErrWorn, 3, false, [2]byte{0x0F, 0x0F}},
		{programming(0, 2, []byte{1, 2}), api.ErrWorn, 3, false, [2]byte{0x0F, 0x0F}},
		{erasing(0), api.OK, 0, false, [2]byte{255, 255}},
		{programming(0, 0, []byte{3, 4}), api.ErrState, 1, true, [2]byte{255, 255}},
		{programming(0, 1, []byte{5, 6}), api.ErrState, 1, true, [2]byte{255, 255}},
		{erasing(0), api.ErrState, 1, true, [2]byte{255, 255}},
		{turning(nil), api.OK, 1, false, [2]byte{255, 255}},
		{programming(0, 0, []byte{3, 4}), api.ErrWorn, 1, false, [2]byte{255, 255}},
		{programming(0, 1, []byte{5, 6}), api.OK, 2, false, [2]byte{255, 255}},
	}
	for i, s := range steps {
		c, _, e = s.a.ask(c)
		b := c.Blocks[0]
		if e != s.e || b.Used != s.used || c.Off != s.off || !bytes.Equal(b.Pages[0], s.page[:]) {
			t.Errorf("step %d, %s: %s, %d", i, s.a.name, told(c), e)
		}
	}
	if c.Ops != 6 || c.Blocks[0].Worn != 2 || !bytes.Equal(c.Blocks[0].Pages[1], []byte{5, 6}) {
		t.Errorf("in the end: %s", told(c))
	}
}

// P6.3

// place of a page.
type place struct{ block, page int }

// kept holds that all that was programmed is read.
func kept(t *testing.T, c api.Chip, should map[place][]byte) {
	t.Helper()
	on, e := chip.On(c, c.Faults)
	if e != api.OK {
		t.Fatalf("%s: %d", told(c), e)
	}
	for at, want := range should {
		if p, e := chip.Read(on, at.block, at.page); e != api.OK || !bytes.Equal(p, want) {
			t.Fatalf("%s: page %d of block %d: %v, %d; not %v", told(c), at.page, at.block, p, e, want)
		}
	}
}

// randomFaults are some of the numbers from about n on.
func randomFaults(r *rand.Rand, n int) []api.Fault {
	var l []api.Fault
	for range r.Intn(12) {
		l = append(l, api.Fault{Op: n + r.Intn(40) - 2, Fail: r.Intn(3) > 0, Cut: r.Intn(3) == 0, Mask: masks[r.Intn(len(masks))]})
	}
	return l
}

// randomCall is one that is right, mostly.
func randomCall(r *rand.Rand, c api.Chip) (call, place, []byte) {
	at := place{r.Intn(len(c.Blocks)), r.Intn(c.Pages)}
	p := make([]byte, c.Size)
	r.Read(p)
	switch n := r.Intn(40); {
	case n < 20:
		at.page = min(c.Blocks[at.block].Used, c.Pages-1)
		return programming(at.block, at.page, p), at, p
	case n < 22:
		return programming(at.block, at.page, p), at, p
	case n < 26:
		return erasing(at.block), at, nil
	case n < 27 && r.Intn(4) == 0:
		return marking(at.block), at, nil
	case n < 28 || c.Off:
		return turning(randomFaults(r, c.Ops)), at, nil
	case n < 29:
		return programming(at.block, at.page, p[1:]), at, p
	case n < 30:
		return erasing(at.block - len(c.Blocks)), place{-1, 0}, nil
	}
	return reading(at.block, at.page), at, nil
}

func TestKept(t *testing.T) {
	r := rand.New(rand.NewSource(6))
	seen := map[api.Errno]int{}
	for range 150 {
		c, _ := chip.New(1+r.Intn(5), 1+r.Intn(6), 1+r.Intn(5))
		c, _ = chip.On(c, randomFaults(r, 0))
		should := map[place][]byte{}
		for range 150 {
			a, at, p := randomCall(r, c)
			was := clone(c)
			next, read, e := a.ask(c)
			seen[e]++
			if !same(c, was) || !chip.Right(next) {
				t.Fatalf("%s: %s was changed, or %s isn't right", a.name, told(was), told(next))
			}
			if next.Ops != was.Ops && next.Blocks[at.block].Worn > was.Blocks[at.block].Worn {
				for n := range c.Pages {
					delete(should, place{at.block, n})
				}
			}
			if want := should[at]; read != nil && want != nil && !bytes.Equal(read, want) {
				t.Fatalf("%s: %v, not %v", a.name, read, want)
			}
			if p != nil && e == api.OK {
				should[at] = p
			}
			c = next
			kept(t, c, should)
		}
	}
	for _, e := range []api.Errno{api.OK, api.ErrArg, api.ErrState, api.ErrWorn} {
		if seen[e] < 300 {
			t.Errorf("error %d just %d times", e, seen[e])
		}
	}
}

// A full chip of the greatest shape keeps all its pages, and others' failing, being marked, and the power's going leave them.
func TestKeptOfGreatest(t *testing.T) {
	c, _ := chip.New(32, 16, 256)
	should := map[place][]byte{}
	for page := range 16 {
		for block := range 32 {
			p := text(256)
			p[0], p[255] = byte(block), byte(page)
			next, e := chip.Program(c, block, page, p)
			if e != api.OK {
				t.Fatal(block, page, e)
			}
			c, should[place{block, page}] = next, p
		}
	}
	kept(t, c, should)
	c, _ = chip.Mark(c, 3)
	kept(t, c, should)
	c, _ = chip.On(c, []api.Fault{{Op: 513, Cut: true}})
	c, e := chip.Erase(c, 4)
	for n := range 16 {
		delete(should, place{4, n})
	}
	if e != api.OK {
		t.Fatal(e)
	}
	kept(t, c, should)
	c, e = chip.Program(c, 4, 0, text(256))
	if e != api.ErrState || c.Ops != 514 {
		t.Fatal(e)
	}
	kept(t, c, should)
}

// The document's rules.

// guard stands in the spare room of lists of bytes.
const guard = 0xE7

// guardedBytes are bytes with spare room.
func guardedBytes(b []byte) []byte {
	return append(bytes.Clone(b), bytes.Repeat([]byte{guard}, 9)...)[:len(b)]
}

// guarded is a chip all of whose lists have spare room, with others of the like in it.
func guarded(c api.Chip) api.Chip {
	blocks := []api.Block{}
	for _, b := range append(slices.Clone(c.Blocks), laid(2, 3, 4).Blocks...) {
		pages := [][]byte{}
		for _, p := range append(slices.Clone(b.Pages), text(5), text(6)) {
			pages = append(pages, guardedBytes(p))
		}
		b.Pages = pages[:len(b.Pages)]
		blocks = append(blocks, b)
	}
	c.Blocks = blocks[:len(c.Blocks)]
	c.Faults = slices.Concat(c.Faults, manyFaults(7))[:len(c.Faults)]
	return c
}

// whole is all that is in a chip's lists and in their spare room, as text.
func whole(c api.Chip) string {
	blocks := c.Blocks[:cap(c.Blocks)]
	out := fmt.Sprint(c.Pages, c.Size, c.Ops, c.Off, c.Faults[:cap(c.Faults)], len(c.Blocks), len(c.Faults))
	for _, b := range blocks {
		out += fmt.Sprint(";", b.Used, b.Worn, b.Bad, len(b.Pages))
		for _, p := range b.Pages[:cap(b.Pages)] {
			out += fmt.Sprint(",", len(p), p[:cap(p)])
		}
	}
	return out
}

// spoilBytes, and their spare room.
func spoilBytes(b []byte) {
	room := b[:cap(b)]
	for i := range room {
		room[i] ^= 0x5A
	}
}

// spoil all of a chip's lists, and their spare room.
func spoil(c api.Chip) {
	faults := c.Faults[:cap(c.Faults)]
	for i := range faults {
		faults[i] = api.Fault{Op: 999, Cut: true, Mask: 99}
	}
	blocks := c.Blocks[:cap(c.Blocks)]
	for i := range blocks {
		pages := blocks[i].Pages[:cap(blocks[i].Pages)]
		for n := range pages {
			spoilBytes(pages[n])
			pages[n] = []byte{99}
		}
		blocks[i] = api.Block{Used: 99}
	}
}

// ruled are chips, right ones and others, that are on and off, and with faults that strike.
func ruled() map[string]api.Chip {
	out := map[string]api.Chip{}
	for what, c := range rightChips() {
		if len(c.Blocks)*c.Pages*c.Size < 1000 {
			out[what] = c
		}
	}
	for _, what := range []string{"nothing", "no blocks", "33 blocks", "65 faults", "no pages in block 1", "a byte more in page 2 of block 1", "Size 4", "Ops -1"} {
		out[what] = wrongChips()[what]
	}
	for _, f := range []api.Fault{{Op: 50, Fail: true, Mask: 0x0F}, {Op: 50, Cut: true, Mask: 0x0F}, {Op: 50}} {
		out[fmt.Sprint("a fault ", f)] = changed(used(), func(c *api.Chip) { c.Faults = []api.Fault{f} })
	}
	return out
}

// ruledCalls are calls that are done, or refused in each way, with what is handed in beside the chip.
func ruledCalls(p []byte, faults []api.Fault) []call {
	right := call{"Right", func(c api.Chip) (api.Chip, []byte, api.Errno) {
		if chip.Right(c) {
			return api.Chip{}, nil, api.OK
		}
		return api.Chip{}, nil, api.ErrArg
	}}
	read := call{"Read", func(c api.Chip) (api.Chip, []byte, api.Errno) {
		p, e := chip.Read(c, 1, 1)
		return api.Chip{}, p, e
	}}
	return []call{right, read, programming(1, 2, p), programming(1, 0, p), programming(0, 0, p[:1]), erasing(1), erasing(0), marking(2), marking(-1), turning(faults), turning(faults[:1])}
}

// What is handed in is not changed, its spare room neither, not even by who gets the answer.
func TestHandedIn(t *testing.T) {
	for what, c := range ruled() {
		for _, n := range []int{1, 5, 64, 65} {
			p, faults := guardedBytes(text(3)), slices.Concat(manyFaults(n), manyFaults(4))[:n]
			for _, a := range ruledCalls(p, faults) {
				in := guarded(c)
				was, wasBytes, wasFaults := whole(in), fmt.Sprint(p[:cap(p)]), fmt.Sprint(faults[:cap(faults)])
				out, read, _ := a.ask(in)
				if whole(in) != was || fmt.Sprint(p[:cap(p)]) != wasBytes || fmt.Sprint(faults[:cap(faults)]) != wasFaults {
					t.Fatalf("%s: %s changes what is handed in", what, a.name)
				}
				spoil(out)
				spoilBytes(read)
				if whole(in) != was || fmt.Sprint(p[:cap(p)]) != wasBytes || fmt.Sprint(faults[:cap(faults)]) != wasFaults {
					t.Fatalf("%s: %s hands out what is handed in", what, a.name)
				}
			}
		}
	}
}

// What is answered stays as it is, whatever is done to what was handed in, or to another answer, and is the same again.
func TestAnswered(t *testing.T) {
	for what, c := range ruled() {
		for i := range ruledCalls(text(3), manyFaults(4)) {
			in, p, faults := guarded(c), guardedBytes(text(3)), manyFaults(4)
			a := ruledCalls(p, faults)[i]
			first, firstRead, e := a.ask(in)
			second, secondRead, _ := a.ask(in)
			want, wantRead := clone(first), bytes.Clone(firstRead)
			spoil(second)
			spoilBytes(secondRead)
			spoil(in)
			spoilBytes(p)
			faults[0] = api.Fault{Op: 5, Mask: 5}
			if !same(first, want) || !bytes.Equal(firstRead, wantRead) {
				t.Fatalf("%s: %s keeps of what is handed in", what, a.name)
			}
			again, againRead, f := ruledCalls(text(3), manyFaults(4))[i].ask(c)
			if !same(again, want) || !bytes.Equal(againRead, wantRead) || e != f {
				t.Fatalf("%s: %s tells unlike", what, a.name)
			}
		}
	}
}

// Of a chip whose pages are one and the same memory one page alone, or one block, becomes another one.
func TestPagesOfOneMemory(t *testing.T) {
	p := []byte{1, 2, 3}
	shared := api.Chip{Pages: 2, Size: 3, Blocks: []api.Block{{Pages: [][]byte{p, p}}, {Pages: [][]byte{p, p}}}}
	apart := clone(shared)
	for _, a := range []call{programming(0, 0, []byte{7, 8, 9}), programming(0, 0, p), erasing(1), marking(0), turning(nil)} {
		want, _, e := a.ask(apart)
		got, _, f := a.ask(shared)
		hold(t, a.name, got, f, want, e)
		if !bytes.Equal(p, []byte{1, 2, 3}) {
			t.Fatalf("%s: changed", a.name)
		}
	}
	got, _ := chip.Program(shared, 0, 0, []byte{7, 8, 9})
	if want := []byte{7, 8, 9}; !bytes.Equal(got.Blocks[0].Pages[0], want) || !bytes.Equal(got.Blocks[0].Pages[1], p) || !bytes.Equal(got.Blocks[1].Pages[0], p) {
		t.Errorf("Program: %s", told(got))
	}
	got, _ = chip.Erase(shared, 1)
	if !bytes.Equal(got.Blocks[0].Pages[0], p) || !bytes.Equal(got.Blocks[0].Pages[1], p) {
		t.Errorf("Erase: %s", told(got))
	}
}

// No two lists of one answer share memory, not even their spare room.
func TestAnsweredApart(t *testing.T) {
	made, _ := chip.New(3, 3, 3)
	answers := map[string]api.Chip{"New": made}
	for _, a := range ruledCalls(text(3), manyFaults(4))[2:] {
		answers[a.name], _, _ = a.ask(made)
	}
	for name, out := range answers {
		for i := range out.Blocks {
			for n := range out.Blocks[i].Pages {
				want := changed(out, func(c *api.Chip) { spoilBytes(c.Blocks[i].Pages[n]) })
				spoilBytes(out.Blocks[i].Pages[n])
				_ = append(out.Blocks[i].Pages[n], 99)
				_ = append(out.Blocks[i].Pages, []byte{99})
				_ = append(out.Blocks, api.Block{Used: 99})
				if !same(out, want) {
					t.Fatalf("%s: of page %d of block %d something is another one's, too", name, n, i)
				}
			}
		}
	}
}
