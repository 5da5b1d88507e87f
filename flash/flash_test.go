package flash_test

import (
	"bytes"
	"fmt"
	"math"
	"math/rand"
	"slices"
	"testing"

	"byway/api"
	"byway/chip"
	"byway/flash"
	"byway/page"
	"byway/root"
)

// What the tests hold the layer against: a volume told by going through all pages, and bodies as texts by their ids.

// last generation that a root may have.
const last = 1<<48 - 1

// limit of what a chip counts.
const limit = 1 << 40

// can there be a volume on a chip?
func can(c api.Chip) bool {
	return chip.Right(c) && len(c.Blocks) >= 4 && c.Pages >= 2 && c.Size >= 24
}

// telling is what Mount should tell of a chip.
func telling(c api.Chip) (api.Vol, api.Errno) {
	if !can(c) {
		return api.Vol{}, api.ErrArg
	}
	if c.Off {
		return api.Vol{}, api.ErrState
	}
	v, blank, used := api.Vol{}, true, false
	found := false
	for n := range 2 * c.Pages {
		b := c.Blocks[n/c.Pages]
		p := b.Pages[n%c.Pages]
		blank = blank && bytes.Equal(p, ones(c.Size))
		if r, e := root.Read(p); e == api.OK && (!found || r.Gen >= v.Gen) {
			found, used = true, n%c.Pages < b.Used
			v = api.Vol{At: r.At, Gen: r.Gen, Last: n / c.Pages}
		}
	}
	if !found && blank {
		return api.Vol{}, api.ErrNone
	}
	taken := map[int]bool{}
	for id, at := range v.At {
		if at != 0 && (taken[at] || !stands(c, id, at-1)) {
			return api.Vol{}, api.ErrForm
		}
		taken[at] = true
	}
	if !found || !used {
		return api.Vol{}, api.ErrForm
	}
	v.Chip = clone(c)
	return v, api.OK
}

// stands tells whether a page of an id stands at a number of a chip.
func stands(c api.Chip, id, n int) bool {
	if n < 2*c.Pages || n >= len(c.Blocks)*c.Pages || n%c.Pages >= c.Blocks[n/c.Pages].Used {
		return false
	}
	p, e := page.Read(c.Blocks[n/c.Pages].Pages[n%c.Pages])
	return e == api.OK && p.Kind == api.Data && p.Id == id
}

// none is what stands for an id without a body.
const none = "-"

// told are the bodies of a volume, by Get; each has a mark ahead.
func told(t *testing.T, v api.Vol) []string {
	t.Helper()
	var out []string
	for id := range v.At {
		b, e := flash.Get(v, id)
		switch {
		case e == api.OK:
			out = append(out, "+"+string(b))
		case e == api.ErrNone && len(b) == 0:
			out = append(out, none)
		default:
			t.Fatalf("Get(%s, %d): %x, %d", short(v), id, b, e)
		}
	}
	return out
}

// behind are the bodies behind a write of items.
func behind(have []string, l []api.Item) []string {
	out := slices.Clone(have)
	for _, x := range l {
		out[x.Id] = none
		if len(x.Body) > 0 {
			out[x.Id] = "+" + string(x.Body)
		}
	}
	return out
}

// bodiesOf tells how many ids have one.
func bodiesOf(have []string) int {
	many := 0
	for _, text := range have {
		if text != none {
			many++
		}
	}
	return many
}

// sameChip tells whether two chips are; a list is nil or empty alike.
func sameChip(a, b api.Chip) bool {
	if a.Pages != b.Pages || a.Size != b.Size || a.Ops != b.Ops || a.Off != b.Off || !slices.Equal(a.Faults, b.Faults) {
		return false
	}
	return slices.EqualFunc(a.Blocks, b.Blocks, func(x, y api.Block) bool {
		return x.Used == y.Used && x.Worn == y.Worn && x.Bad == y.Bad && slices.EqualFunc(x.Pages, y.Pages, bytes.Equal)
	})
}

// sameTold tells whether two volumes tell the same, be their chips what they are.
func sameTold(a, b api.Vol) bool {
	return a.Gen == b.Gen && a.Last == b.Last && slices.Equal(a.At, b.At)
}

// same tells whether two volumes are.
func same(a, b api.Vol) bool {
	return sameTold(a, b) && sameChip(a.Chip, b.Chip)
}

// clone is a chip of its own memory.
func clone(c api.Chip) api.Chip {
	out := api.Chip{Pages: c.Pages, Size: c.Size, Ops: c.Ops, Off: c.Off, Faults: append([]api.Fault{}, c.Faults...)}
	for _, b := range c.Blocks {
		pages := [][]byte{}
		for _, p := range b.Pages {
			pages = append(pages, append([]byte{}, p...))
		}
		out.Blocks = append(out.Blocks, api.Block{Pages: pages, Used: b.Used, Worn: b.Worn, Bad: b.Bad})
	}
	return out
}

// cloneVol is a volume of its own memory.
func cloneVol(v api.Vol) api.Vol {
	return api.Vol{Chip: clone(v.Chip), At: append([]int{}, v.At...), Gen: v.Gen, Last: v.Last}
}

// on is a chip that is on, with these faults.
func on(c api.Chip, faults ...api.Fault) api.Chip {
	out := clone(c)
	out.Off, out.Faults = false, faults
	return out
}

// onVol is a volume whose chip is on, with these faults.
func onVol(v api.Vol, faults ...api.Fault) api.Vol {
	out := cloneVol(v)
	out.Chip = on(v.Chip, faults...)
	return out
}

// short is a volume in few words.
func short(v api.Vol) string {
	c := v.Chip
	text := fmt.Sprintf("At %v, Gen %d, Last %d, %d bytes, Ops %d, Off %v, blocks", v.At, v.Gen, v.Last, c.Size, c.Ops, c.Off)
	for _, b := range c.Blocks {
		text += fmt.Sprintf(" %d/%d", b.Used, len(b.Pages))
		if b.Bad {
			text += "!"
		}
	}
	return text
}

// Inputs.

// ones are so many bytes that are erased.
func ones(many int) []byte {
	return bytes.Repeat([]byte{255}, many)
}

// fresh is a new chip.
func fresh(t *testing.T, blocks, pages, size int) api.Chip {
	t.Helper()
	c, e := chip.New(blocks, pages, size)
	if e != api.OK {
		t.Fatal(blocks, pages, size, e)
	}
	return c
}

// formatted is a volume on a new chip.
func formatted(t *testing.T, blocks, pages, size, ids int) api.Vol {
	t.Helper()
	v, e := flash.Format(fresh(t, blocks, pages, size), ids)
	if e != api.OK {
		t.Fatal(blocks, pages, size, ids, e)
	}
	return v
}

// put is what a volume is behind a write, which must be OK.
func put(t *testing.T, v api.Vol, l ...api.Item) api.Vol {
	t.Helper()
	w, e := flash.Write(v, l)
	if e != api.OK {
		t.Fatalf("Write(%s, %v): %d", short(v), l, e)
	}
	return w
}

// item of an id, with a text as its body.
func item(id int, text string) api.Item {
	return api.Item{Id: id, Body: []byte(text)}
}

// used is a volume of 4 ids on 6 blocks of 3 pages, that was written many times over.
func used(t *testing.T) api.Vol {
	t.Helper()
	v := formatted(t, 6, 3, 32, 4)
	for i := range 40 {
		v = put(t, v, item(i%3, fmt.Sprint("body ", i)))
	}
	return v
}

// lay a page in a chip as if it had been programmed there, ahead of others that may follow.
func lay(c *api.Chip, block, n int, p []byte) {
	c.Blocks[block].Pages[n] = p
	c.Blocks[block].Used = max(c.Blocks[block].Used, n+1)
}

// data is a page's bytes.
func data(t *testing.T, id int, gen uint64, text string, size int) []byte {
	t.Helper()
	b, e := page.Put(api.Page{Kind: api.Data, Id: id, Gen: gen, Body: []byte(text)}, size)
	if e != api.OK {
		t.Fatal(id, gen, text, size, e)
	}
	return b
}

// rooted is a root's bytes.
func rooted(t *testing.T, gen uint64, size int, at ...int) []byte {
	t.Helper()
	b, e := root.Put(api.Roots{Gen: gen, At: at}, size)
	if e != api.OK {
		t.Fatal(gen, size, at, e)
	}
	return b
}

// laid is a chip of 5 blocks of 3 pages, with three ids, laid by hand: id 0 at block 2, page 1, id 1 at block 3, page 0, id 2 has none; the root is the second one of block 1, behind older ones.
func laid(t *testing.T) api.Chip {
	t.Helper()
	c := fresh(t, 5, 3, 32)
	lay(&c, 0, 0, rooted(t, 6, 32, 0, 0, 0))
	lay(&c, 0, 1, rooted(t, 8, 32, 7, 0, 0))
	lay(&c, 1, 0, rooted(t, 7, 32, 0, 0, 7))
	lay(&c, 1, 1, rooted(t, 9, 32, 8, 10, 0))
	lay(&c, 2, 0, data(t, 0, 8, "old", 32))
	lay(&c, 2, 1, data(t, 0, 9, "zero", 32))
	lay(&c, 3, 0, data(t, 1, 9, "one", 32))
	c.Ops = 7
	return c
}

// unfit are chips on which there can't be a volume, each for one cause; all but the volume's own causes are a chip's.
func unfit(t *testing.T) map[string]api.Chip {
	t.Helper()
	out := map[string]api.Chip{
		"no chip":  {},
		"3 blocks": fresh(t, 3, 16, 256),
		"1 block":  fresh(t, 1, 16, 256),
		"1 page":   fresh(t, 32, 1, 256),
		"23 bytes": fresh(t, 32, 16, 23),
		"1 byte":   fresh(t, 32, 16, 1),
	}
	for what, change := range map[string]func(c *api.Chip){
		"33 blocks":        func(c *api.Chip) { c.Blocks = slices.Repeat(c.Blocks[:1], 33) },
		"no blocks":        func(c *api.Chip) { c.Blocks = nil },
		"17 pages":         func(c *api.Chip) { c.Pages = 17 },
		"a page more":      func(c *api.Chip) { c.Blocks[4].Pages = append(c.Blocks[4].Pages, ones(32)) },
		"a page less":      func(c *api.Chip) { c.Blocks[0].Pages = c.Blocks[0].Pages[:2] },
		"a byte more":      func(c *api.Chip) { c.Blocks[1].Pages[2] = ones(33) },
		"a byte less":      func(c *api.Chip) { c.Blocks[1].Pages[0] = c.Blocks[1].Pages[0][:31] },
		"Size 257":         func(c *api.Chip) { c.Size = 257 },
		"Used -1":          func(c *api.Chip) { c.Blocks[4].Used = -1 },
		"Used 4 of 3":      func(c *api.Chip) { c.Blocks[3].Used = 4 },
		"Worn -1":          func(c *api.Chip) { c.Blocks[1].Worn = -1 },
		"Worn 2^40 + 1":    func(c *api.Chip) { c.Blocks[4].Worn = limit + 1 },
		"Ops -1":           func(c *api.Chip) { c.Ops = -1 },
		"Ops 2^40 + 1":     func(c *api.Chip) { c.Ops = limit + 1 },
		"65 faults":        func(c *api.Chip) { c.Faults = make([]api.Fault, 65) },
		"Pages 0, and off": func(c *api.Chip) { c.Pages, c.Off = 0, true },
	} {
		c := laid(t)
		change(&c)
		out[what] = c
	}
	return out
}

// refused holds that Mount tells this error of a chip, and nothing else.
func refused(t *testing.T, what string, c api.Chip, want api.Errno) {
	t.Helper()
	if v, e := flash.Mount(c); e != want || !same(v, api.Vol{}) {
		t.Errorf("%s: Mount(%s): %s, %d; not %d", what, short(api.Vol{Chip: c}), short(v), e, want)
	}
}

// stood holds that a volume is right, and what its chip tells.
func stood(t *testing.T, what string, v api.Vol) {
	t.Helper()
	c := v.Chip
	c.Off = false
	is, e := telling(c)
	if e != api.OK || !sameTold(v, is) || !flash.Right(v) {
		t.Fatalf("%s: %s isn't what its chip tells: %v, %d, %d, %d; Right %v", what, short(v), is.At, is.Gen, is.Last, e, flash.Right(v))
	}
}

// holdBodies holds that a volume is right, and has these bodies.
func holdBodies(t *testing.T, what string, v api.Vol, want []string) {
	t.Helper()
	stood(t, what, v)
	if got := told(t, v); !slices.Equal(got, want) {
		t.Fatalf("%s: %s: bodies %q, not %q", what, short(v), got, want)
	}
}

// P11.1

// Each number of ids on chips of each kind, the least and the greatest too.
func TestFormat(t *testing.T) {
	for _, blocks := range []int{4, 5, 32} {
		for _, pages := range []int{2, 3, 16} {
			for _, size := range []int{24, 25, 26, 40, 143, 144, 256} {
				most := root.Most(size)
				for _, ids := range []int{1, 2, most - 1, most} {
					c := fresh(t, blocks, pages, size)
					v, e := flash.Format(c, ids)
					what := fmt.Sprintf("%d blocks, %d pages, %d bytes, %d ids", blocks, pages, size, ids)
					if e != api.OK || len(v.At) != ids || len(v.Chip.Blocks) != blocks || v.Chip.Off {
						t.Fatalf("%s: %s, %d", what, short(v), e)
					}
					holdBodies(t, what, v, slices.Repeat([]string{none}, ids))
					if m, e := flash.Mount(v.Chip); e != api.OK || !same(m, v) {
						t.Errorf("%s: mounted %s, %d", what, short(m), e)
					}
				}
			}
		}
	}
}

// What was there is lost, however many ids there were, and what is written then is found.
func TestFormatUsed(t *testing.T) {
	v := used(t)
	for _, ids := range []int{1, 3, 4, 5, 8} {
		w, e := flash.Format(v.Chip, ids)
		if e != api.OK {
			t.Fatal(ids, e)
		}
		have := slices.Repeat([]string{none}, ids)
		holdBodies(t, "used", w, have)
		for i := range 30 {
			l := []api.Item{item(i%ids, fmt.Sprint("new ", i))}
			if bodiesOf(have) > 3 {
				l = []api.Item{{Id: slices.IndexFunc(have, func(s string) bool { return s != none })}}
			}
			w, have = put(t, w, l...), behind(have, l)
			holdBodies(t, "used, and written", w, have)
		}
		v = w
	}
}

// There can't be one: the chip is answered as it is. So it is where the chip is off, too.
func TestFormatArg(t *testing.T) {
	for what, c := range unfit(t) {
		for _, ids := range []int{1, 2, 0} {
			if v, e := flash.Format(c, ids); e != api.ErrArg || !same(v, api.Vol{Chip: c}) {
				t.Errorf("%s: %d ids: %s, %d", what, ids, short(v), e)
			}
		}
	}
	for _, size := range []int{24, 25, 26, 144, 256} {
		most := map[int]int{24: 4, 25: 4, 26: 5, 144: 64, 256: 64}[size]
		for _, ids := range []int{0, -1, math.MinInt, most + 1, most + 2, 65, 1 << 16, 1<<32 + 1, math.MaxInt} {
			for _, off := range []bool{false, true} {
				c := fresh(t, 5, 3, size)
				c.Off = off
				if v, e := flash.Format(c, ids); e != api.ErrArg || !same(v, api.Vol{Chip: c}) {
					t.Errorf("%d bytes, %d ids, off %v: %s, %d", size, ids, off, short(v), e)
				}
			}
		}
	}
}

func TestFormatOff(t *testing.T) {
	worn := fresh(t, 4, 2, 24)
	worn.Blocks[0].Bad, worn.Blocks[1].Bad = true, true
	for _, c := range []api.Chip{fresh(t, 4, 2, 24), laid(t), used(t).Chip, worn} {
		c.Off = true
		if v, e := flash.Format(c, 2); e != api.ErrState || !same(v, api.Vol{Chip: c}) {
			t.Errorf("%s, %d", short(v), e)
		}
	}
}

// Blocks that are bad from the beginning on: one of those for roots is enough, and none of the others is needed.
func TestFormatBad(t *testing.T) {
	for _, c := range []api.Chip{fresh(t, 4, 2, 24), laid(t), used(t).Chip} {
		for bad := range 1 << len(c.Blocks) {
			d := clone(c)
			for n := range d.Blocks {
				d.Blocks[n].Bad = bad>>n&1 == 1
			}
			v, e := flash.Format(d, 2)
			if bad&3 == 3 {
				if e != api.ErrWorn || !same(v, api.Vol{Chip: d}) {
					t.Errorf("both bad: %s, %d", short(v), e)
				}
				continue
			}
			if e != api.OK {
				t.Fatalf("bad %b: %s, %d", bad, short(v), e)
			}
			holdBodies(t, "bad", v, []string{none, none})
			if v.Last != 0 && bad&2 == 2 || v.Last != 1 && bad&1 == 1 {
				t.Errorf("bad %b: root in %d", bad, v.Last)
			}
			audit(t, fmt.Sprintf("bad %b", bad), d, nil, true, formatting(2))
		}
	}
}

// A block that fails: the root is put elsewhere. Both: there is none, and both are bad.
func TestFormatFails(t *testing.T) {
	for _, c := range []api.Chip{fresh(t, 4, 2, 24), fresh(t, 5, 3, 40), laid(t), used(t).Chip, highChip(t, last), highChip(t, 1<<47)} {
		for _, mask := range []byte{0, 255, 0x5A} {
			for at := range 8 {
				fault := api.Fault{Op: c.Ops + at, Fail: true, Mask: mask}
				v, e := flash.Format(on(c, fault), 2)
				what := fmt.Sprintf("%s: fails at %d, %d", short(api.Vol{Chip: c}), at, mask)
				if e == api.OK {
					holdBodies(t, what, v, []string{none, none})
				} else if e != api.ErrWorn || !same(v, api.Vol{Chip: v.Chip}) {
					t.Errorf("%s: %s, %d", what, short(v), e)
				} else if r, f := telling(c); f == api.OK && r.Gen < 1<<47 {
					t.Errorf("%s: nothing", what)
				}
				audit(t, what, c, map[int]byte{c.Ops + at: mask}, false, formatting(2))
			}
			var faults []api.Fault
			for at := range 40 {
				faults = append(faults, api.Fault{Op: c.Ops + at, Fail: true, Mask: 0})
			}
			v, e := flash.Format(on(c, faults...), 2)
			if e != api.ErrWorn || !same(v, api.Vol{Chip: v.Chip}) || !v.Chip.Blocks[0].Bad && !v.Chip.Blocks[1].Bad {
				t.Errorf("all fails: %s, %d", short(v), e)
			}
		}
	}
}

// highChip is a used chip whose newest root is of this Gen.
func highChip(t *testing.T, gen uint64) api.Chip {
	t.Helper()
	return ofGen(t, used(t), gen).Chip
}

// The power goes: what was there is there, as a whole, or the new volume, or, where there was none, none.
func TestFormatCut(t *testing.T) {
	old := used(t)
	for what, c := range map[string]api.Chip{"fresh": fresh(t, 4, 2, 24), "more": fresh(t, 6, 3, 40), "used": old.Chip, "laid": laid(t), "high": highChip(t, last), "less high": highChip(t, last-1)} {
		was, had := telling(c)
		for _, mask := range []byte{0, 255} {
			at := 0
			for ; ; at++ {
				v, e := flash.Format(on(c, api.Fault{Op: c.Ops + at, Cut: true, Mask: mask}), 3)
				if e == api.OK {
					break
				}
				if e != api.ErrState || !v.Chip.Off || !same(v, api.Vol{Chip: v.Chip}) {
					t.Fatalf("%s: cut at %d: %s, %d", what, at, short(v), e)
				}
				m, e := flash.Mount(on(v.Chip))
				switch {
				case e == api.OK && slices.Equal(told(t, m), []string{none, none, none}):
				case e == api.OK && had == api.OK:
					holdBodies(t, what, m, told(t, was))
				case had == api.OK || e == api.OK:
					t.Errorf("%s: cut at %d, %d: %s, %d", what, at, mask, short(m), e)
				}
				if w, e := flash.Format(on(v.Chip), 3); e != api.OK || !slices.Equal(told(t, w), []string{none, none, none}) {
					t.Errorf("%s: formatted again: %s, %d", what, short(w), e)
				}
			}
			if at == 0 {
				t.Errorf("%s: no operation", what)
			}
		}
	}
}

// Whatever Gen a root had that was there: the volume is one that can be written, again and again.
func TestFormatGen(t *testing.T) {
	for _, gen := range []uint64{0, 1, 1 << 40, 1<<47 - 1, 1 << 47, last - 30, last - 3, last - 2, last - 1, last} {
		for block := range 2 {
			for n := range 3 {
				c := fresh(t, 5, 3, 32)
				for i := range n {
					lay(&c, block, i, rooted(t, uint64(i), 32, 0, 0))
				}
				lay(&c, block, n, rooted(t, gen, 32, 7, 0))
				lay(&c, 2, 0, data(t, 0, gen, "zero", 32))
				v, e := flash.Format(c, 2)
				if e != api.OK {
					t.Fatalf("Gen %d: %d", gen, e)
				}
				have := []string{none, none}
				holdBodies(t, "Gen", v, have)
				placed(t, v)
				for i := range 20 {
					v = put(t, v, item(i%2, fmt.Sprint(i)))
					have = behind(have, []api.Item{item(i%2, fmt.Sprint(i))})
					holdBodies(t, "Gen", v, have)
				}
				audit(t, fmt.Sprintf("Gen %d", gen), c, nil, true, formatting(2))
			}
		}
	}
}

// What is in the blocks 0 and 1 may be anything: pages that are no root's, blank ones that were programmed, and such as weren't but aren't blank.
func TestFormatAnything(t *testing.T) {
	r := rand.New(rand.NewSource(11))
	for range 600 {
		c := anyChip(t, r)
		for n := range 2 {
			c.Blocks[n].Bad = false
		}
		ids := 1 + r.Intn(root.Most(c.Size))
		v, e := flash.Format(c, ids)
		if e != api.OK {
			t.Fatalf("%s: %d", short(api.Vol{Chip: c}), e)
		}
		holdBodies(t, "anything", v, slices.Repeat([]string{none}, ids))
		audit(t, "anything", c, nil, false, formatting(ids))
	}
}

// A chip that counts no further can't be written.
func TestFormatCount(t *testing.T) {
	for _, c := range []api.Chip{fresh(t, 5, 3, 32), laid(t)} {
		for left := range 5 {
			c.Ops = limit - left
			v, e := flash.Format(c, 2)
			switch {
			case e == api.OK && left > 0:
				holdBodies(t, "counts", v, []string{none, none})
			case e == api.ErrWorn && left < 3 && same(v, api.Vol{Chip: v.Chip}):
			default:
				t.Errorf("%d left: %s, %d", left, short(v), e)
			}
			if left == 0 && !sameChip(v.Chip, c) {
				t.Errorf("none left: %s", short(v))
			}
		}
	}
	c := fresh(t, 4, 2, 24)
	for n := range c.Blocks {
		c.Blocks[n].Used, c.Blocks[n].Worn = 2, limit
	}
	if v, e := flash.Format(c, 1); e != api.ErrWorn || !same(v, api.Vol{Chip: c}) {
		t.Errorf("worn as far: %s, %d", short(v), e)
	}
}

// P11.2

func TestMount(t *testing.T) {
	v, e := flash.Mount(laid(t))
	if e != api.OK || v.Gen != 9 || v.Last != 1 || !slices.Equal(v.At, []int{8, 10, 0}) || !sameChip(v.Chip, laid(t)) {
		t.Fatalf("%s, %d", short(v), e)
	}
	holdBodies(t, "laid", v, []string{"+zero", "+one", none})
	v = used(t)
	if m, e := flash.Mount(v.Chip); e != api.OK || !same(m, v) {
		t.Errorf("%s, %d; not %s", short(m), e, short(v))
	}
	v.Chip.Faults = []api.Fault{{Op: v.Chip.Ops, Cut: true}}
	if m, e := flash.Mount(v.Chip); e != api.OK || !same(m, v) {
		t.Errorf("with a fault: %s, %d; not %s", short(m), e, short(v))
	}
}

func TestMountArg(t *testing.T) {
	for what, c := range unfit(t) {
		refused(t, what, c, api.ErrArg)
		c.Off = true
		refused(t, what+", and off", c, api.ErrArg)
	}
}

// Off is told ahead of all that is in it.
func TestMountOff(t *testing.T) {
	for _, c := range []api.Chip{fresh(t, 4, 2, 24), laid(t), used(t).Chip} {
		c.Off = true
		refused(t, "off", c, api.ErrState)
	}
	c := laid(t)
	c.Off, c.Blocks[1].Used = true, 0
	refused(t, "off", c, api.ErrState)
}

// No root: nothing at all in the blocks 0 and 1, or something.
func TestMountNone(t *testing.T) {
	c := fresh(t, 5, 3, 32)
	refused(t, "new", c, api.ErrNone)
	lay(&c, 2, 0, rooted(t, 4, 32, 0, 0))
	refused(t, "a root elsewhere", c, api.ErrNone)
	lay(&c, 1, 2, ones(32))
	refused(t, "blank pages that were programmed", c, api.ErrNone)
	torn := rooted(t, 4, 32, 0, 0)
	torn[9] ^= 1
	odd := data(t, 0, 4, "x", 32)
	bits := ones(32)
	bits[31] = 254
	for what, p := range map[string][]byte{"torn": torn, "of data": odd, "a bit": bits, "of noughts": make([]byte, 32)} {
		for block := range 2 {
			for n := range 3 {
				d := clone(c)
				lay(&d, block, n, p)
				refused(t, what, d, api.ErrForm)
				d.Blocks[block].Used = n
				refused(t, what+", not programmed", d, api.ErrForm)
			}
		}
	}
}

// A newest root whose page wasn't programmed, though one that is older was.
func TestMountUsed(t *testing.T) {
	c := laid(t)
	for n, want := range []api.Errno{api.ErrForm, api.ErrForm, api.OK, api.OK} {
		c.Blocks[1].Used = n
		if v, e := flash.Mount(c); e != want {
			t.Errorf("Used %d: %s, %d", n, short(v), e)
		}
	}
	c = laid(t)
	c.Blocks[0].Pages[2] = rooted(t, 9, 32, 8, 10, 0)
	if v, e := flash.Mount(c); e != api.OK || v.Last != 1 {
		t.Errorf("one as new, ahead: %s, %d", short(v), e)
	}
	c.Blocks[0].Pages[2] = rooted(t, 10, 32, 8, 10, 0)
	refused(t, "newer, not programmed", c, api.ErrForm)
	c.Blocks[0].Used = 3
	if v, e := flash.Mount(c); e != api.OK || v.Last != 0 || v.Gen != 10 {
		t.Errorf("newer: %s, %d", short(v), e)
	}
	c = laid(t)
	c.Blocks[1].Pages[2] = rooted(t, 9, 32, 0, 10, 0)
	refused(t, "one as new, behind, not programmed", c, api.ErrForm)
	c.Blocks[1].Used = 3
	if v, e := flash.Mount(c); e != api.OK || v.At[0] != 0 {
		t.Errorf("one as new, behind: %s, %d", short(v), e)
	}
}

// Where a root says what isn't so.
func TestMountSays(t *testing.T) {
	for _, at := range []int{1, 2, 3, 4, 5, 6, 16, 17, 30, 31, 46, 255, 256, 65535} {
		c := laid(t)
		lay(&c, 0, 1, data(t, 0, 9, "zero", 32))
		lay(&c, 1, 1, rooted(t, 9, 32, at, 10, 0))
		refused(t, fmt.Sprintf("an id at %d", at), c, api.ErrForm)
	}
	blank, torn := ones(32), data(t, 0, 9, "zero", 32)
	torn[14] ^= 4
	for what, p := range map[string][]byte{
		"blank":       blank,
		"torn":        torn,
		"of noughts":  make([]byte, 32),
		"a root":      rooted(t, 9, 32, 8),
		"another Id":  data(t, 1, 9, "zero", 32),
		"far from it": data(t, 63, 9, "zero", 32),
	} {
		c := laid(t)
		lay(&c, 2, 1, p)
		refused(t, what, c, api.ErrForm)
	}
	for n, want := range []api.Errno{api.ErrForm, api.ErrForm, api.OK, api.OK} {
		c := laid(t)
		c.Blocks[2].Used = n
		if v, e := flash.Mount(c); e != want {
			t.Errorf("Used %d: %s, %d", n, short(v), e)
		}
	}
	c := laid(t)
	lay(&c, 1, 1, rooted(t, 9, 32, 8, 8, 0))
	refused(t, "two at one", c, api.ErrForm)
	lay(&c, 1, 1, rooted(t, 9, 32, 10, 8, 0))
	refused(t, "each at the other's", c, api.ErrForm)
	lay(&c, 1, 1, rooted(t, 9, 32, 8, 10, 8))
	refused(t, "the last one at the first one's", c, api.ErrForm)
	lay(&c, 1, 1, rooted(t, 9, 32, 7, 0, 0))
	if v, e := flash.Mount(c); e != api.OK || told(t, v)[0] != "+old" {
		t.Errorf("at an older page: %s, %d", short(v), e)
	}
	lay(&c, 1, 1, rooted(t, 9, 32))
	if v, e := flash.Mount(c); e != api.OK || len(v.At) != 0 {
		t.Errorf("no ids: %s, %d", short(v), e)
	}
}

// Any chip, of pages of all kinds: what Mount tells is what going through all its pages tells.
func TestMountAny(t *testing.T) {
	r := rand.New(rand.NewSource(5))
	seen := map[api.Errno]int{}
	for range 4000 {
		c := anyChip(t, r)
		if r.Intn(20) == 0 {
			c.Off = true
		}
		want, wantErr := telling(c)
		v, e := flash.Mount(c)
		if e != wantErr || !same(v, want) {
			t.Fatalf("%s, %d; not %s, %d", short(v), e, short(want), wantErr)
		}
		seen[e]++
		if right := flash.Right(v); right != (e == api.OK) {
			t.Fatalf("%s, %d: Right %v", short(v), e, right)
		}
	}
	for _, e := range []api.Errno{api.OK, api.ErrState, api.ErrForm, api.ErrNone} {
		if seen[e] < 50 {
			t.Errorf("error %d just %d times", e, seen[e])
		}
	}
}

// anyChip is one that no writer leaves: pages of all kinds in all blocks, some not blank though they weren't programmed; most have a root that says what is so.
func anyChip(t *testing.T, r *rand.Rand) api.Chip {
	t.Helper()
	c := fresh(t, 4+r.Intn(4), 2+r.Intn(4), 24+r.Intn(12))
	c.Ops = r.Intn(1000)
	dirty := r.Intn(2) == 0
	for n := range c.Blocks {
		b := &c.Blocks[n]
		b.Used, b.Worn, b.Bad = r.Intn(c.Pages+1), r.Intn(9), r.Intn(8) == 0
		for i := range b.Pages {
			if i < b.Used || dirty && r.Intn(5) == 0 {
				b.Pages[i] = anyPage(t, r, c.Size)
			}
		}
	}
	at := make([]int, 1+r.Intn(root.Most(c.Size)))
	taken := map[int]bool{}
	for id := range at {
		n := 2*c.Pages + r.Intn((len(c.Blocks)-2)*c.Pages)
		if n%c.Pages < c.Blocks[n/c.Pages].Used && !taken[n] {
			c.Blocks[n/c.Pages].Pages[n%c.Pages] = data(t, id, uint64(r.Intn(9)), "laid"[:r.Intn(5)], c.Size)
			at[id], taken[n] = n+1, true
		}
		if r.Intn(60) == 0 {
			at[id] = r.Intn(50)
		}
	}
	if b := &c.Blocks[r.Intn(2)]; r.Intn(9) > 0 {
		i := r.Intn(c.Pages)
		b.Pages[i] = rooted(t, uint64(9+r.Intn(9)), c.Size, at...)
		if r.Intn(9) > 0 {
			b.Used = max(b.Used, i+1)
		}
	} else if r.Intn(2) == 0 {
		for n := range 2 {
			for i := range c.Blocks[n].Pages {
				c.Blocks[n].Pages[i] = ones(c.Size)
			}
		}
	}
	return c
}

// anyPage is one of any kind.
func anyPage(t *testing.T, r *rand.Rand, size int) []byte {
	t.Helper()
	switch r.Intn(6) {
	case 0:
		return ones(size)
	case 1:
		return rooted(t, uint64(r.Intn(9)), size, r.Intn(40), r.Intn(40))
	case 2:
		b := make([]byte, size)
		r.Read(b)
		return b
	default:
		return data(t, r.Intn(4), uint64(r.Intn(20)), "anything"[:r.Intn(9)], size)
	}
}

// P11.3

func TestLimit(t *testing.T) {
	for blocks := -5; blocks < 70; blocks++ {
		for pages := -5; pages < 40; pages++ {
			want := 0
			if 4 <= blocks && blocks <= 32 && 1 <= pages && pages <= 16 {
				want = (blocks - 4) * pages
			}
			if got := flash.Limit(blocks, pages); got != want {
				t.Errorf("Limit(%d, %d): %d, not %d", blocks, pages, got, want)
			}
		}
	}
	wrong := []int{math.MinInt, math.MinInt + 6, -1 << 32, 1 << 32, 1<<32 + 6, math.MaxInt - 1, math.MaxInt}
	for _, n := range wrong {
		for _, m := range append(wrong, 6, 16) {
			if a, b := flash.Limit(n, m), flash.Limit(m, n); a != 0 || b != 0 {
				t.Errorf("Limit of %d and %d: %d, %d", n, m, a, b)
			}
		}
	}
	if flash.Limit(6, 2) != 4 || flash.Limit(32, 16) != 448 || flash.Limit(4, 16) != 0 || flash.Limit(3, 16) != 0 {
		t.Error("Limit")
	}
}

// wrongVols aren't right, each for one cause.
func wrongVols(t *testing.T) map[string]api.Vol {
	t.Helper()
	out := map[string]api.Vol{"none": {}, "none on a chip": {Chip: laid(t)}, "on a new chip": {Chip: fresh(t, 5, 3, 32), At: make([]int, 3)}}
	for what, c := range unfit(t) {
		out["on no chip for it: "+what] = api.Vol{Chip: c, At: []int{8, 10, 0}, Gen: 9, Last: 1}
	}
	for what, change := range map[string]func(v *api.Vol){
		"Gen less":                func(v *api.Vol) { v.Gen = 8 },
		"Gen more":                func(v *api.Vol) { v.Gen = 10 },
		"Gen far":                 func(v *api.Vol) { v.Gen = 1<<48 + 9 },
		"Last 0":                  func(v *api.Vol) { v.Last = 0 },
		"Last 2":                  func(v *api.Vol) { v.Last = 2 },
		"Last -1":                 func(v *api.Vol) { v.Last = -1 },
		"Last far":                func(v *api.Vol) { v.Last = math.MaxInt },
		"an id less":              func(v *api.Vol) { v.At = v.At[:2] },
		"no id":                   func(v *api.Vol) { v.At = nil },
		"an id more":              func(v *api.Vol) { v.At = append(v.At, 0) },
		"an id nowhere":           func(v *api.Vol) { v.At[1] = 0 },
		"an id elsewhere":         func(v *api.Vol) { v.At[0] = 7 },
		"an id somewhere":         func(v *api.Vol) { v.At[2] = 11 },
		"an id below":             func(v *api.Vol) { v.At[2] = -1 },
		"an id far":               func(v *api.Vol) { v.At[0] = 8 + 1<<32 },
		"a page that isn't there": func(v *api.Vol) { v.Chip.Blocks[2].Pages[1] = ones(32) },
		"a page of another id":    func(v *api.Vol) { v.Chip.Blocks[2].Pages[1] = data(t, 1, 9, "zero", 32) },
		"a page unprogrammed":     func(v *api.Vol) { v.Chip.Blocks[3].Used = 0 },
		"a root unprogrammed":     func(v *api.Vol) { v.Chip.Blocks[1].Used = 1 },
		"a root that isn't there": func(v *api.Vol) { v.Chip.Blocks[1].Pages[1] = ones(32) },
		"a newer root":            func(v *api.Vol) { lay(&v.Chip, 0, 2, rooted(t, 10, 32, 8, 10, 0)) },
		"a root as new, behind":   func(v *api.Vol) { lay(&v.Chip, 1, 2, rooted(t, 9, 32, 8, 0, 0)) },
	} {
		v, _ := flash.Mount(laid(t))
		change(&v)
		out[what] = v
	}
	return out
}

// Wrong volumes, on or off, aren't right: nothing is told of them, and they aren't written.
func TestWrong(t *testing.T) {
	for what, v := range wrongVols(t) {
		for _, off := range []bool{false, true} {
			v := cloneVol(v)
			v.Chip.Off = off
			if flash.Right(v) {
				t.Errorf("%s: right", what)
			}
			for id := -1; id < 5; id++ {
				if b, e := flash.Get(v, id); e != api.ErrArg || len(b) != 0 {
					t.Errorf("%s: Get(%d): %x, %d", what, id, b, e)
				}
			}
			if l := flash.Known(v); len(l) != 0 {
				t.Errorf("%s: Known: %v", what, l)
			}
			for _, l := range [][]api.Item{nil, {item(0, "x")}, {{Id: 1}}, {item(7, "x")}} {
				if w, e := flash.Write(v, l); e != api.ErrArg || !same(w, v) {
					t.Errorf("%s: Write(%v): %s, %d", what, l, short(w), e)
				}
			}
		}
	}
}

// Right ones, on or off, with faults and without.
func TestRight(t *testing.T) {
	v, _ := flash.Mount(laid(t))
	for _, v := range []api.Vol{v, used(t), formatted(t, 4, 2, 24, 1), formatted(t, 32, 16, 256, 64)} {
		for _, off := range []bool{false, true} {
			v.Chip.Off = off
			v.Chip.Faults = make([]api.Fault, 64)
			if !flash.Right(v) {
				t.Errorf("%s: not right", short(v))
			}
		}
	}
	v, _ = flash.Mount(laid(t))
	v.Chip.Blocks[1].Bad, v.Chip.Blocks[2].Bad = true, true
	if !flash.Right(v) {
		t.Error("bad blocks: not right")
	}
	lay(&v.Chip, 1, 1, rooted(t, 9, 32))
	if v.At = nil; !flash.Right(v) {
		t.Error("no ids: not right")
	}
	if v.At = []int{}; !flash.Right(v) {
		t.Error("no ids, empty: not right")
	}
}

func TestGet(t *testing.T) {
	c := laid(t)
	lay(&c, 4, 0, data(t, 2, 9, "", 32))
	lay(&c, 1, 2, rooted(t, 10, 32, 8, 0, 13))
	v, _ := flash.Mount(c)
	for _, x := range []struct {
		id   int
		body string
		e    api.Errno
	}{{0, "zero", api.OK}, {1, "", api.ErrNone}, {2, "", api.OK}, {3, "", api.ErrArg}, {-1, "", api.ErrArg}, {64, "", api.ErrArg}, {math.MinInt, "", api.ErrArg}, {math.MaxInt, "", api.ErrArg}, {1 << 32, "", api.ErrArg}} {
		if b, e := flash.Get(v, x.id); e != x.e || string(b) != x.body {
			t.Errorf("Get(%d): %q, %d", x.id, b, e)
		}
		off := v
		off.Chip.Off = true
		want := api.ErrState
		if x.e == api.ErrArg {
			want = api.ErrArg
		}
		if b, e := flash.Get(off, x.id); e != want || len(b) != 0 {
			t.Errorf("off: Get(%d): %q, %d", x.id, b, e)
		}
	}
}

func TestKnown(t *testing.T) {
	c := laid(t)
	c.Blocks[2].Worn, c.Blocks[3].Bad = 17, true
	lay(&c, 4, 2, ones(32))
	lay(&c, 2, 2, data(t, 2, 9, "two", 32))
	lay(&c, 1, 2, rooted(t, 10, 32, 8, 10, 9))
	v, _ := flash.Mount(c)
	want := []api.Wear{{Live: 2, Used: 3, Worn: 17}, {Live: 1, Used: 1, Bad: true}, {Used: 3}}
	for range 2 {
		if got := flash.Known(v); !slices.Equal(got, want) {
			t.Errorf("%v, not %v", got, want)
		}
		v.Chip.Off = true
	}
}

// Of any volume Known tells of each block what stands there.
func TestKnownAny(t *testing.T) {
	r := rand.New(rand.NewSource(6))
	for range 2000 {
		v, e := flash.Mount(anyChip(t, r))
		if e != api.OK {
			continue
		}
		var want []api.Wear
		for n, b := range v.Chip.Blocks[2:] {
			w := api.Wear{Used: b.Used, Worn: b.Worn, Bad: b.Bad}
			for _, at := range v.At {
				if at > 0 && (at-1)/v.Chip.Pages == n+2 {
					w.Live++
				}
			}
			want = append(want, w)
		}
		if got := flash.Known(v); !slices.Equal(got, want) {
			t.Fatalf("%s: %v, not %v", short(v), got, want)
		}
	}
}
