package flash_test

import (
	"bytes"
	"fmt"
	"math/rand"
	"slices"
	"testing"

	"byway/api"
	"byway/flash"
	"byway/page"
	"byway/root"
)

// What goes through a call's operations one by one.

// formatting a chip, as what is audited.
func formatting(ids int) func(api.Chip) api.Chip {
	return func(c api.Chip) api.Chip {
		v, _ := flash.Format(c, ids)
		return v.Chip
	}
}

// writing items to a volume whose chip is the one that is given.
func writing(v api.Vol, l []api.Item) func(api.Chip) api.Chip {
	return func(c api.Chip) api.Chip {
		in := cloneVol(v)
		in.Chip = c
		w, _ := flash.Write(in, l)
		return w.Chip
	}
}

// audit holds of each operation of a call that it programs a page that is erased, in its block's order, or erases a block, and none that is bad; what fails is bad from then on, and nothing else is. Where it is to be whole, too, no block is erased but when all its pages were programmed. To be seen each operation is cut with all bits kept, or as it fails.
func audit(t *testing.T, what string, c api.Chip, fails map[int]byte, whole bool, call func(api.Chip) api.Chip) {
	t.Helper()
	var faults []api.Fault
	for op, mask := range fails {
		faults = append(faults, api.Fault{Op: op, Fail: true, Mask: mask})
	}
	end, was := call(on(c, faults...)), clone(c)
	for op := c.Ops; op < end.Ops; op++ {
		mask, failed := fails[op]
		if !failed {
			mask = 255
		}
		now := call(on(c, append([]api.Fault{{Op: op, Cut: true, Mask: mask}}, faults...)...))
		n, ok := step(was, now, failed, whole)
		if !ok || now.Ops != op+1 || !now.Off {
			t.Fatalf("%s: operation %d: from %s to %s", what, op, short(api.Vol{Chip: was}), short(api.Vol{Chip: now}))
		}
		was = now
		was.Blocks[n].Bad = failed
	}
	was.Off, was.Faults = end.Off, end.Faults
	if !sameChip(was, end) && len(end.Blocks) > 0 {
		t.Fatalf("%s: in the end %s, not %s", what, short(api.Vol{Chip: end}), short(api.Vol{Chip: was}))
	}
}

// step tells which block one operation wrote, and whether it might; now becomes the chip as it is where the power doesn't go.
func step(was, now api.Chip, failed, whole bool) (int, bool) {
	at, many := 0, 0
	for n, b := range was.Blocks {
		d := now.Blocks[n]
		if b.Bad != d.Bad {
			return 0, false
		}
		if b.Used != d.Used || b.Worn != d.Worn || !slices.EqualFunc(b.Pages, d.Pages, bytes.Equal) {
			at, many = n, many+1
		}
	}
	b, d := was.Blocks[at], &now.Blocks[at]
	if many != 1 || b.Bad {
		return 0, false
	}
	if d.Worn == b.Worn+1 {
		if !failed {
			d.Used = 0
		}
		return at, !whole || b.Used == was.Pages
	}
	for i, p := range b.Pages {
		if i != b.Used && !bytes.Equal(p, d.Pages[i]) {
			return 0, false
		}
	}
	return at, d.Worn == b.Worn && d.Used == b.Used+1 && page.Blank(b.Pages[b.Used])
}

// counted holds of a chip that no block was ever erased but when all its pages were programmed: its operations are those.
func counted(t *testing.T, what string, c api.Chip) {
	t.Helper()
	many := 0
	for _, b := range c.Blocks {
		many += b.Used + b.Worn*(c.Pages+1)
	}
	if many != c.Ops {
		t.Fatalf("%s: %d operations, not %d: %s", what, c.Ops, many, short(api.Vol{Chip: c}))
	}
}

// Inputs.

// ofGen is a volume whose newest root has this Gen instead.
func ofGen(t *testing.T, v api.Vol, gen uint64) api.Vol {
	t.Helper()
	w := cloneVol(v)
	pages := w.Chip.Blocks[v.Last].Pages
	for n, p := range pages {
		if r, e := root.Read(p); e == api.OK && r.Gen == v.Gen {
			pages[n] = rooted(t, gen, v.Chip.Size, v.At...)
		}
	}
	w.Gen = gen
	stood(t, "of Gen", w)
	return w
}

// batch of items of unlike ids, at most so many, one in five of them without a Body.
func batch(r *rand.Rand, ids, most, room int) []api.Item {
	var l []api.Item
	for _, id := range r.Perm(ids)[:r.Intn(min(ids, most)+1)] {
		x := api.Item{Id: id}
		if r.Intn(5) > 0 {
			x.Body = make([]byte, 1+r.Intn(room))
			r.Read(x.Body)
		}
		l = append(l, x)
	}
	return l
}

// shape of a chip, most often a small one, and how many ids.
func shape(r *rand.Rand) (blocks, pages, size, ids int) {
	blocks, pages, size = 4+r.Intn(5), 2+r.Intn(4), 24+r.Intn(40)
	if r.Intn(30) == 0 {
		blocks, pages = 4+r.Intn(29), 2+r.Intn(15)
	}
	return blocks, pages, size, 1 + r.Intn(min(root.Most(size), 3+(blocks-4)*pages))
}

// within are items, so many that with the bodies that are there they are at most Limit and one more.
func within(r *rand.Rand, v api.Vol, have []string) []api.Item {
	most := flash.Limit(len(v.Chip.Blocks), v.Chip.Pages) + 1 - bodiesOf(have)
	l := batch(r, len(have), max(most, 0), page.Room(v.Chip.Size))
	if r.Intn(3) == 0 && len(l) > 1 {
		l = l[:1]
	}
	return l
}

// someVols are volumes that were written many times over, never with more than Limit and one more.
func someVols(t *testing.T, seed int64, many int) []api.Vol {
	t.Helper()
	r := rand.New(rand.NewSource(seed))
	var out []api.Vol
	for range many {
		blocks, pages, size, ids := shape(r)
		v := formatted(t, blocks, pages, size, ids)
		for range r.Intn(40) {
			v = put(t, v, within(r, v, told(t, v))...)
		}
		out = append(out, v)
	}
	return out
}

// scattered is a volume of which the bodies were written one by one, and half of them taken away, so that there is something in most blocks that doesn't count; and a batch that is as much as may be with what is left.
func scattered(t *testing.T, r *rand.Rand) (api.Vol, []api.Item) {
	t.Helper()
	blocks, pages := 6+r.Intn(4), 2+r.Intn(3)
	limit := flash.Limit(blocks, pages)
	ids := limit + 1
	v := formatted(t, blocks, pages, 80, ids)
	for range 3 * limit {
		id := r.Intn(limit)
		if v.At[id] != 0 || bodiesOf(told(t, v)) < limit {
			v = put(t, v, item(id, fmt.Sprint("was ", id)))
		}
	}
	for _, id := range r.Perm(ids)[:ids/2] {
		if v.At[id] != 0 {
			v = put(t, v, api.Item{Id: id})
		}
	}
	return v, itemsOf(r, ids, limit+1-bodiesOf(told(t, v)), r.Intn(100))
}

// operations that a call needs.
func operations(c api.Chip, call func(api.Chip) api.Chip) int {
	return call(on(c)).Ops - c.Ops
}

// P11.4

// The chapter's example: ids 0 and 1 written together, the power cut at the root: none is there.
func TestExample(t *testing.T) {
	v := formatted(t, 4, 2, 24, 2)
	l := []api.Item{item(0, "zero"), item(1, "one")}
	many := operations(v.Chip, writing(v, l))
	for _, mask := range []byte{0, 255} {
		for at := range many {
			w, e := flash.Write(onVol(v, api.Fault{Op: v.Chip.Ops + at, Cut: true, Mask: mask}), l)
			if e != api.ErrState || !w.Chip.Off {
				t.Fatalf("cut at %d: %s, %d", at, short(w), e)
			}
			m, e := flash.Mount(on(w.Chip))
			want := []string{none, none}
			if at == many-1 && mask == 255 {
				want = behind(want, l)
			}
			if e != api.OK {
				t.Fatal(at, e)
			}
			holdBodies(t, fmt.Sprintf("cut at %d, %d", at, mask), m, want)
		}
	}
	v = put(t, v, l...)
	holdBodies(t, "whole", v, []string{"+zero", "+one"})
}

// Written many times over, mounted, and got id by id.
func TestWrite(t *testing.T) {
	for _, x := range [][4]int{{4, 2, 24, 1}, {5, 2, 24, 2}, {5, 3, 40, 3}, {8, 4, 24, 4}, {32, 16, 64, 7}} {
		v := formatted(t, x[0], x[1], x[2], x[3])
		have := slices.Repeat([]string{none}, x[3])
		for i := range 20 * x[1] * x[0] / (x[3] + 1) {
			// By turns a body, one as long as has room, none, an empty one, and two together.
			id, l := i%x[3], []api.Item(nil)
			switch i % 5 {
			case 0:
				l = []api.Item{item(id, fmt.Sprint(i))}
			case 1:
				l = []api.Item{{Id: id, Body: bytes.Repeat([]byte{byte(i)}, x[2]-16)}}
			case 2:
				l = []api.Item{{Id: (id + 2) % x[3]}}
			case 3:
				l = []api.Item{{Id: (id + 1) % x[3], Body: []byte{}}}
			case 4:
				if l = []api.Item{item(id, "twice")}; x[3] > 2 {
					l = append(l, item((id+1)%x[3], "two"))
				}
			}
			w, e := flash.Write(v, l)
			if e == api.ErrFull && bodiesOf(have)+len(l) > flash.Limit(x[0], x[1])+1 {
				holdBodies(t, "full", w, have)
				continue
			}
			if e != api.OK {
				t.Fatalf("%v, %d: %d", x, i, e)
			}
			have = behind(have, l)
			holdBodies(t, "written", w, have)
			if m, e := flash.Mount(w.Chip); e != api.OK || !same(m, w) {
				t.Fatalf("mounted %s, %d; not %s", short(m), e, short(w))
			}
			v = w
		}
		counted(t, fmt.Sprint(x), v.Chip)
		erased := 0
		for _, b := range v.Chip.Blocks[2:] {
			erased += b.Worn
		}
		if erased == 0 {
			t.Errorf("%v: nothing was erased", x)
		}
	}
}

// Several items together, in any order, and none: nothing but they is another one.
func TestWriteTogether(t *testing.T) {
	v := formatted(t, 8, 3, 32, 6)
	v = put(t, v, item(5, "five"), item(0, "zero"), item(3, "three"))
	holdBodies(t, "three", v, []string{"+zero", none, none, "+three", none, "+five"})
	v = put(t, v, api.Item{Id: 3}, item(1, "one"), api.Item{Id: 4}, item(0, "naught"))
	holdBodies(t, "four", v, []string{"+naught", "+one", none, none, none, "+five"})
	v = put(t, v)
	holdBodies(t, "none", v, []string{"+naught", "+one", none, none, none, "+five"})
	v = put(t, v, api.Item{Id: 0, Body: []byte{}}, api.Item{Id: 1}, api.Item{Id: 5})
	holdBodies(t, "all gone", v, slices.Repeat([]string{none}, 6))
	if !slices.Equal(v.At, make([]int, 6)) {
		t.Errorf("an empty body is kept: %v", v.At)
	}
}

// Bodies that go need a root, and nothing else.
func TestWriteGone(t *testing.T) {
	for _, v := range someVols(t, 52, 100) {
		have := told(t, v)
		for id := range have {
			w := put(t, v, api.Item{Id: id})
			have = behind(have, []api.Item{{Id: id}})
			holdBodies(t, "gone", w, have)
			for n := range v.Chip.Blocks[2:] {
				a, b := v.Chip.Blocks[n+2], w.Chip.Blocks[n+2]
				if a.Used != b.Used || a.Worn != b.Worn {
					t.Fatalf("block %d: %d, %d; was %d, %d", n+2, b.Used, b.Worn, a.Used, a.Worn)
				}
			}
			v = w
		}
	}
}

// wrongItems may not be written to a volume of 4 ids, of 32 bytes a page.
func wrongItems() map[string][]api.Item {
	long := make([]byte, 17)
	return map[string][]api.Item{
		"above":                 {item(4, "x")},
		"above, without a Body": {{Id: 4}},
		"far above":             {item(64, "x")},
		"by its last bits":      {item(1<<32, "x")},
		"below":                 {item(-1, "x")},
		"below, without a Body": {{Id: -1}},
		"behind right ones":     {item(0, "x"), item(1, "y"), item(4, "z")},
		"twice":                 {item(1, "x"), item(1, "x")},
		"twice, apart":          {item(1, "x"), item(0, "x"), {Id: 2}, {Id: 1}},
		"twice, without Bodies": {{Id: 3}, {Id: 3}},
		"too long":              {{Id: 0, Body: long}},
		"too long, last":        {item(1, "x"), {Id: 0, Body: long}},
		"far too long":          {{Id: 2, Body: make([]byte, 1<<16)}},
		"all, and one":          {{Id: 0}, {Id: 1}, {Id: 2}, {Id: 3}, {Id: 0}},
	}
}

// Wrong items are refused ahead of all else, the volume as it is; so is any list where the Gen is the last one.
func TestWriteArg(t *testing.T) {
	v := used(t)
	ended := ofGen(t, v, last)
	for _, off := range []bool{false, true} {
		v.Chip.Off, ended.Chip.Off = off, off
		for what, l := range wrongItems() {
			for _, v := range []api.Vol{v, ended} {
				if w, e := flash.Write(v, l); e != api.ErrArg || !same(w, v) {
					t.Errorf("%s: %s, %d", what, short(w), e)
				}
			}
		}
		for _, l := range [][]api.Item{nil, {item(0, "x")}, {{Id: 3}}} {
			if w, e := flash.Write(ended, l); e != api.ErrArg || !same(w, ended) {
				t.Errorf("the last Gen: %v: %s, %d", l, short(w), e)
			}
		}
	}
	v.Chip.Off = false
	put(t, v, api.Item{Id: 0, Body: make([]byte, 16)})
}

// Off is told ahead of no room, and of no place for a root.
func TestWriteOff(t *testing.T) {
	full, worn := formatted(t, 4, 2, 24, 4), used(t)
	full = put(t, full, item(0, "x"), item(1, "y"))
	worn.Chip.Blocks[0].Bad, worn.Chip.Blocks[1].Bad = true, true
	all := []api.Item{item(0, "x"), item(1, "y"), item(2, "x"), item(3, "y")}
	if _, e := flash.Write(full, all); e != api.ErrFull {
		t.Fatal(e)
	}
	if _, e := flash.Write(worn, nil); e != api.ErrWorn {
		t.Fatal(e)
	}
	for _, v := range []api.Vol{used(t), formatted(t, 4, 2, 24, 4), full, worn} {
		v.Chip.Off = true
		for _, l := range [][]api.Item{nil, {item(0, "x")}, {{Id: 0}}, all} {
			if w, e := flash.Write(v, l); e != api.ErrState || !same(w, v) {
				t.Errorf("%v: %s, %d", l, short(w), e)
			}
		}
	}
}

// The last generations: a volume of 2^48 - 2 is written once more, whatever has to be moved for that, wherever its root is.
func TestWriteLastGen(t *testing.T) {
	for n, v := range someVols(t, 51, 300) {
		r := rand.New(rand.NewSource(int64(n)))
		have := told(t, v)
		for _, gen := range []uint64{last - 2, last - 1} {
			v := ofGen(t, v, gen)
			l := within(r, v, have)
			w, e := flash.Write(v, l)
			if e != api.OK {
				t.Fatalf("Gen %d: Write(%s, %v): %s, %d", gen, short(v), l, short(w), e)
			}
			holdBodies(t, "Gen", w, behind(have, l))
			if gen == last-1 && w.Gen != last {
				t.Errorf("Gen %d behind %d", w.Gen, gen)
			}
			audit(t, "last Gens", v.Chip, nil, true, writing(v, l))
			cutEach(t, v, l)
			if w = onVol(w); w.Gen == last {
				if x, e := flash.Write(w, l); e != api.ErrArg || !same(x, w) {
					t.Errorf("behind the last one: %s, %d", short(x), e)
				}
			}
		}
	}
}

// Where a batch is more than has room nothing of it is written, and what has room then is.
func TestWriteFull(t *testing.T) {
	v := formatted(t, 5, 2, 24, 4)
	all := []api.Item{item(0, "a"), item(1, "b"), item(2, "c"), item(3, "d")}
	v = put(t, v, all[:3]...)
	full := 0
	for i := range 20 {
		have := told(t, v)
		w, e := flash.Write(v, all)
		if e == api.OK {
			holdBodies(t, "room for all", w, behind(have, all))
		} else if e == api.ErrFull {
			full++
			holdBodies(t, "no room", w, have)
			w = put(t, w, api.Item{Id: i % 4}, api.Item{Id: (i + 1) % 4}, api.Item{Id: (i + 2) % 4})
			w = put(t, w, item(i%4, "e"))
		} else {
			t.Fatalf("%s, %d", short(w), e)
		}
		v = w
	}
	if full == 0 {
		t.Error("never full")
	}
}

// No block is left to be written: bodies go, but none comes.
func TestWriteNoRoom(t *testing.T) {
	for bad := range 16 {
		c := fresh(t, 6, 2, 32)
		for n := range 4 {
			c.Blocks[n+2].Bad = bad>>n&1 == 1
		}
		v, e := flash.Format(c, 2)
		if e != api.OK {
			t.Fatal(e)
		}
		w, e := flash.Write(v, []api.Item{item(1, "x")})
		if bad == 15 {
			if e != api.ErrFull {
				t.Errorf("all bad: %s, %d", short(w), e)
			}
			holdBodies(t, "all bad", w, []string{none, none})
			continue
		}
		if e != api.OK {
			t.Fatalf("bad %b: %d", bad, e)
		}
		holdBodies(t, "bad", w, []string{none, "+x"})
		audit(t, "bad", v.Chip, nil, true, writing(v, []api.Item{item(1, "x")}))
		for n := range w.Chip.Blocks[2:] {
			w.Chip.Blocks[n+2].Bad = true
		}
		x, e := flash.Write(w, []api.Item{item(0, "y"), {Id: 1}})
		if e != api.ErrFull {
			t.Errorf("all bad then: %s, %d", short(x), e)
		}
		holdBodies(t, "all bad then", x, []string{none, "+x"})
		holdBodies(t, "gone", put(t, x, api.Item{Id: 1}), []string{none, none})
	}
}

// One of the blocks for roots is bad: the other one has place, till all its pages are programmed. Then none is written any more, and what was is there.
func TestWriteWorn(t *testing.T) {
	for bad := range 2 {
		for pages := 2; pages < 6; pages++ {
			c := fresh(t, 8, pages, 32)
			c.Blocks[bad].Bad = true
			v, e := flash.Format(c, 2)
			if e != api.OK {
				t.Fatal(e)
			}
			have := told(t, v)
			for i := range 20 {
				l := []api.Item{item(i%2, fmt.Sprint(i))}
				w, e := flash.Write(v, l)
				if e == api.OK {
					have = behind(have, l)
				} else if e != api.ErrWorn || v.Chip.Blocks[1-bad].Used < pages || !same(w, v) {
					t.Fatalf("%d: %s, %d", i, short(w), e)
				}
				holdBodies(t, "one bad", w, have)
				v = w
			}
			if w, e := flash.Write(v, nil); e != api.ErrWorn || !same(w, v) {
				t.Errorf("%s, %d", short(w), e)
			}
			if w, e := flash.Format(v.Chip, 2); e != api.OK || !slices.Equal(told(t, w), []string{none, none}) {
				t.Errorf("formatted: %s, %d", short(w), e)
			}
		}
	}
}

// A chip that counts no further: no page, no root.
func TestWriteCount(t *testing.T) {
	v := used(t)
	have := told(t, v)
	for left := range 12 {
		in := onVol(v)
		in.Chip.Ops = limit - left
		l := []api.Item{item(0, "x"), item(3, "y")}
		w, e := flash.Write(in, l)
		switch {
		case e == api.OK && left > 2:
			holdBodies(t, "counts", w, behind(have, l))
		case e == api.ErrWorn && left > 0, e == api.ErrFull:
			holdBodies(t, "counts no further", w, have)
		default:
			t.Errorf("%d left: %s, %d", left, short(w), e)
		}
		if left == 0 {
			if w, e := flash.Write(in, []api.Item{{Id: 0}}); e != api.ErrWorn || !same(w, in) {
				t.Errorf("none left: %s, %d", short(w), e)
			}
		}
	}
	for n := range v.Chip.Blocks {
		v.Chip.Blocks[n].Worn = limit
	}
	for i := range 30 {
		l := []api.Item{item(0, fmt.Sprint(i))}
		w, e := flash.Write(v, l)
		if e == api.OK {
			have = behind(have, l)
		} else if e != api.ErrFull && e != api.ErrWorn {
			t.Fatalf("worn as far: %s, %d", short(w), e)
		}
		holdBodies(t, "worn as far", w, have)
		v = w
	}
}

// P11.5

// Never more than Limit and one more: nothing tells ErrFull, no block is erased but when all its pages were programmed, and no page is torn or lost, or behind its block's last one.
func TestRoom(t *testing.T) {
	r := rand.New(rand.NewSource(61))
	for range 250 {
		blocks, pages, size, ids := shape(r)
		v := formatted(t, blocks, pages, size, ids)
		have := slices.Repeat([]string{none}, ids)
		for range 80 {
			l := within(r, v, have)
			w, e := flash.Write(v, l)
			if e != api.OK {
				t.Fatalf("Write(%s, %v): %s, %d", short(v), l, short(w), e)
			}
			have = behind(have, l)
			holdBodies(t, "within", w, have)
			counted(t, "within", w.Chip)
			sound(t, w)
			if r.Intn(4) == 0 {
				w, _ = flash.Mount(w.Chip)
			}
			v = w
		}
	}
}

// sound holds of a volume that nothing failed that of each id that has a body the newest page is that one, and its pages are placed.
func sound(t *testing.T, v api.Vol) {
	t.Helper()
	placed(t, v)
	newest, place := map[int]uint64{}, map[int]int{}
	for n := range len(v.Chip.Blocks) * v.Chip.Pages {
		p, _ := page.Read(v.Chip.Blocks[n/v.Chip.Pages].Pages[n%v.Chip.Pages])
		if is, ok := newest[p.Id]; p.Kind == api.Data && (!ok || p.Gen >= is) {
			newest[p.Id], place[p.Id] = p.Gen, n+1
		}
	}
	for id, at := range v.At {
		if at != 0 && place[id] != at {
			t.Fatalf("%s: id %d: the newest page is at %d", short(v), id, place[id])
		}
	}
}

// placed holds of a chip that its pages are roots in the blocks 0 and 1, and of data in the others, blank ones behind.
func placed(t *testing.T, v api.Vol) {
	t.Helper()
	for n, b := range v.Chip.Blocks {
		for i, bytes := range b.Pages {
			want := api.Data
			if n < 2 {
				want = api.Root
			}
			if i >= b.Used {
				want = api.Empty
			}
			if p, e := page.Read(bytes); e != api.OK || p.Kind != want {
				t.Fatalf("%s: block %d, page %d: %v, %d", short(v), n, i, p, e)
			}
		}
	}
}

// Just Limit and one more, all at once and by halves, over and over, with what is there in all orders; and one more than that is written, or not, as a whole.
func TestRoomEdge(t *testing.T) {
	r := rand.New(rand.NewSource(62))
	for _, x := range [][3]int{{4, 2, 24}, {5, 2, 40}, {5, 3, 40}, {6, 2, 56}, {6, 4, 80}, {9, 2, 60}, {7, 8, 80}, {32, 2, 144}, {8, 16, 144}} {
		limit := flash.Limit(x[0], x[1])
		ids := min(root.Most(x[2]), limit+2)
		v := formatted(t, x[0], x[1], x[2], ids)
		have := slices.Repeat([]string{none}, ids)
		for i := range 10 + 400/ids {
			l := itemsOf(r, ids, limit+1-bodiesOf(have), i)
			v = put(t, v, l...)
			have = behind(have, l)
			holdBodies(t, "the edge", v, have)
			if l = itemsOf(r, ids, limit+2-bodiesOf(have), i); bodiesOf(have)+len(l) == limit+2 {
				w, e := flash.Write(v, l)
				if e == api.OK {
					holdBodies(t, "one more", w, behind(have, l))
				} else if e == api.ErrFull {
					holdBodies(t, "one more", w, have)
				} else {
					t.Fatalf("one more: %s, %d", short(w), e)
				}
			}
			// Ids go one by one, or by as many as may at once, so that bodies and items are no more than that together.
			for many := r.Intn(limit + 2); bodiesOf(have) > many && bodiesOf(have) <= limit; {
				var gone []api.Item
				for _, id := range r.Perm(ids) {
					if have[id] != none && len(gone)+bodiesOf(have) < limit+1 {
						gone = append(gone, api.Item{Id: id})
					}
				}
				v = put(t, v, gone...)
				have = behind(have, gone)
				holdBodies(t, "gone", v, have)
			}
			if bodiesOf(have) > limit {
				break
			}
		}
		counted(t, "the edge", v.Chip)
		sound(t, v)
	}
}

// itemsOf so many ids, if there are as many.
func itemsOf(r *rand.Rand, ids, many, i int) []api.Item {
	var l []api.Item
	for _, id := range r.Perm(ids)[:max(0, min(ids, many))] {
		l = append(l, item(id, fmt.Sprint(i)))
	}
	return l
}

// What is written of any list, also of more than that, is there as a whole, or nothing.
func TestWriteAny(t *testing.T) {
	r := rand.New(rand.NewSource(63))
	seen := map[api.Errno]int{}
	for range 300 {
		blocks, pages, size, ids := shape(r)
		v := formatted(t, blocks, pages, size, ids)
		have := slices.Repeat([]string{none}, ids)
		for range 30 {
			l := batch(r, ids, ids, page.Room(size))
			w, e := flash.Write(v, l)
			if e == api.OK {
				have = behind(have, l)
			} else if e != api.ErrFull || bodiesOf(have)+len(l) <= flash.Limit(blocks, pages)+1 {
				t.Fatalf("Write(%s, %v): %d", short(v), l, e)
			}
			seen[e]++
			holdBodies(t, "any", w, have)
			counted(t, "any", w.Chip)
			sound(t, w)
			v = w
		}
	}
	if seen[api.OK] < 1000 || seen[api.ErrFull] < 100 {
		t.Errorf("%v", seen)
	}
}

// Each operation of a write, seen by itself.
func TestOperations(t *testing.T) {
	for n, v := range someVols(t, 64, 150) {
		r := rand.New(rand.NewSource(int64(n)))
		l := within(r, v, told(t, v))
		audit(t, "within", v.Chip, nil, true, writing(v, l))
		l = batch(r, len(v.At), len(v.At), page.Room(v.Chip.Size))
		audit(t, "any", v.Chip, nil, true, writing(v, l))
	}
}

// cutEach cuts the power at each operation of a write: what is mounted then is what was, or what is written, as a whole; and it can be written.
func cutEach(t *testing.T, v api.Vol, l []api.Item) {
	t.Helper()
	have := told(t, v)
	now := behind(have, l)
	many := operations(v.Chip, writing(v, l))
	for _, mask := range []byte{0, 255} {
		for at := range many {
			what := fmt.Sprintf("cut at %d of %d, %d: Write(%s, %v)", at, many, mask, short(v), l)
			in := onVol(v, api.Fault{Op: v.Chip.Ops + at, Cut: true, Mask: mask})
			w, e := flash.Write(in, l)
			if e != api.ErrState || !w.Chip.Off || !sameTold(w, v) {
				t.Fatalf("%s: %s, %d", what, short(w), e)
			}
			if x, e := flash.Write(w, l); e != api.ErrState && e != api.ErrArg || !same(x, w) {
				t.Fatalf("%s: off: %s, %d", what, short(x), e)
			}
			m, e := flash.Mount(on(w.Chip))
			if e != api.OK {
				t.Fatalf("%s: %d", what, e)
			}
			if got := told(t, m); !slices.Equal(got, have) && !slices.Equal(got, now) {
				t.Fatalf("%s: bodies %q", what, got)
			}
			if m.Gen == last {
				continue
			}
			if fits := bodiesOf(told(t, m))+len(l) <= flash.Limit(len(v.Chip.Blocks), v.Chip.Pages)+1; fits {
				holdBodies(t, what, put(t, m, l...), now)
			}
		}
	}
}

func TestCuts(t *testing.T) {
	for n, v := range someVols(t, 65, 120) {
		r := rand.New(rand.NewSource(int64(n)))
		cutEach(t, v, within(r, v, told(t, v)))
		cutEach(t, v, batch(r, len(v.At), len(v.At), page.Room(v.Chip.Size)))
	}
}

// Where bodies have to be moved ahead, with a root of their own: each operation by itself, cut, or failing, also where no generation is left for that.
func TestMoved(t *testing.T) {
	r := rand.New(rand.NewSource(70))
	ahead := 0
	for range 24 {
		v, l := scattered(t, r)
		have := told(t, v)
		w := put(t, v, l...)
		holdBodies(t, "moved", w, behind(have, l))
		counted(t, "moved", w.Chip)
		sound(t, w)
		if w.Gen == v.Gen+1 {
			continue
		}
		ahead++
		audit(t, "moved", v.Chip, nil, true, writing(v, l))
		cutEach(t, v, l)
		failEach(t, v, l)
		v = ofGen(t, v, last-1)
		w = put(t, v, l...)
		holdBodies(t, "moved, the last Gen", w, behind(have, l))
		placed(t, w)
		if w.Gen != last {
			t.Fatalf("Gen %d behind %d", w.Gen, v.Gen)
		}
		audit(t, "moved, the last Gen", v.Chip, nil, true, writing(v, l))
		cutEach(t, v, l)
	}
	if ahead < 5 {
		t.Errorf("just %d times", ahead)
	}
}

// The power goes again and again, at any operation: there is always room for what had room.
func TestCutsOver(t *testing.T) {
	r := rand.New(rand.NewSource(66))
	for range 150 {
		blocks, pages, size, ids := shape(r)
		v := formatted(t, blocks, pages, size, ids)
		have := slices.Repeat([]string{none}, ids)
		for range 60 {
			l := within(r, v, have)
			mask := byte(255 * r.Intn(2))
			w, e := flash.Write(onVol(v, api.Fault{Op: v.Chip.Ops + r.Intn(8), Cut: true, Mask: mask}), l)
			if e != api.OK && e != api.ErrState {
				t.Fatalf("Write(%s, %v): %s, %d", short(v), l, short(w), e)
			}
			m, f := flash.Mount(on(w.Chip))
			if f != api.OK {
				t.Fatalf("%s: %d", short(w), f)
			}
			if now := behind(have, l); e == api.OK || slices.Equal(told(t, m), now) {
				have = now
			}
			holdBodies(t, "cut", m, have)
			v = m
		}
	}
}

// failEach lets each operation of a write fail: the block is bad then, and gone round. There is place for a root as long as nothing failed ahead.
func failEach(t *testing.T, v api.Vol, l []api.Item) {
	t.Helper()
	have := told(t, v)
	many := operations(v.Chip, writing(v, l))
	for at := range many {
		for _, mask := range []byte{0, 255, 0x5A} {
			what := fmt.Sprintf("fails at %d of %d, %d: Write(%s, %v)", at, many, mask, short(v), l)
			op := v.Chip.Ops + at
			w, e := flash.Write(onVol(v, api.Fault{Op: op, Fail: true, Mask: mask}), l)
			if e == api.OK {
				holdBodies(t, what, w, behind(have, l))
			} else if e == api.ErrFull {
				holdBodies(t, what, w, have)
			} else {
				t.Fatalf("%s: %s, %d", what, short(w), e)
			}
			bad := 0
			for _, b := range w.Chip.Blocks {
				if b.Bad {
					bad++
				}
			}
			if bad != 1 {
				t.Fatalf("%s: %d bad blocks", what, bad)
			}
			audit(t, what, v.Chip, map[int]byte{op: mask}, false, writing(v, l))
		}
	}
}

func TestFails(t *testing.T) {
	for n, v := range someVols(t, 67, 100) {
		r := rand.New(rand.NewSource(int64(n)))
		failEach(t, v, within(r, v, told(t, v)))
	}
}

// A new volume on the least chip, of whose blocks for pages one fails: there is room in the other one.
func TestFailsLeast(t *testing.T) {
	v := formatted(t, 4, 2, 24, 1)
	w, e := flash.Write(onVol(v, api.Fault{Op: v.Chip.Ops, Fail: true}), []api.Item{item(0, "x")})
	if e != api.OK {
		t.Fatal(e)
	}
	holdBodies(t, "one fails", w, []string{"+x"})
	v = formatted(t, 8, 2, 32, 4)
	var faults []api.Fault
	for at := range 5 {
		faults = append(faults, api.Fault{Op: v.Chip.Ops + at, Fail: true, Mask: 255})
	}
	w, e = flash.Write(onVol(v, faults...), []api.Item{item(0, "x"), item(1, "y")})
	if e != api.OK {
		t.Fatal(e)
	}
	holdBodies(t, "five fail", w, []string{"+x", "+y", none, none})
}

// Anything fails, and the power goes, over and over, till there is no place for a root: what is mounted is what was written last, or what was cut, as a whole.
func TestStorm(t *testing.T) {
	r := rand.New(rand.NewSource(68))
	seen := map[api.Errno]int{}
	for range 400 {
		blocks, pages, size, ids := shape(r)
		v := formatted(t, min(32, blocks+r.Intn(8)), pages, size, ids)
		have := slices.Repeat([]string{none}, ids)
		for range 40 {
			l := batch(r, ids, 1+r.Intn(ids), page.Room(size))
			fails, faults := map[int]byte{}, []api.Fault(nil)
			for range r.Intn(3) {
				f := api.Fault{Op: v.Chip.Ops + r.Intn(12), Mask: byte(255 * r.Intn(2))}
				f.Cut = r.Intn(3) == 0
				f.Fail = !f.Cut || r.Intn(2) == 0
				if _, twice := fails[f.Op]; !twice {
					faults = append(faults, f)
				}
				fails[f.Op] = f.Mask
			}
			w, e := flash.Write(onVol(v, faults...), l)
			seen[e]++
			now := behind(have, l)
			switch e {
			case api.OK:
				have = now
				holdBodies(t, "OK", w, have)
			case api.ErrFull, api.ErrWorn:
				holdBodies(t, "as it was", w, have)
			case api.ErrState:
				if !sameTold(w, v) || !w.Chip.Off {
					t.Fatalf("%s; was %s", short(w), short(v))
				}
			default:
				t.Fatal(e)
			}
			m, f := flash.Mount(on(w.Chip))
			if f != api.OK {
				t.Fatalf("%s: %d", short(w), f)
			}
			if e == api.ErrState && slices.Equal(told(t, m), now) {
				have = now
			}
			holdBodies(t, "mounted", m, have)
			v = m
		}
	}
	for _, e := range []api.Errno{api.OK, api.ErrFull, api.ErrWorn, api.ErrState} {
		if seen[e] < 100 {
			t.Errorf("error %d just %d times", e, seen[e])
		}
	}
}

// Whatever is on a chip that is mounted: what is written then is there, and nothing else is another one, though bodies are moved, an empty one too.
func TestAnything(t *testing.T) {
	r := rand.New(rand.NewSource(69))
	seen := map[api.Errno]int{}
	for range 1500 {
		v, e := flash.Mount(anyChip(t, r))
		if e != api.OK {
			continue
		}
		have := told(t, v)
		for range 6 {
			l := batch(r, len(have), 3, page.Room(v.Chip.Size))
			w, e := flash.Write(v, l)
			if e == api.OK {
				have = behind(have, l)
			} else if e != api.ErrFull && e != api.ErrWorn {
				t.Fatalf("Write(%s, %v): %d", short(v), l, e)
			}
			seen[e]++
			holdBodies(t, "anything", w, have)
			audit(t, "anything", v.Chip, nil, false, writing(v, l))
			v = w
		}
	}
	if seen[api.OK] < 1000 || seen[api.ErrFull] < 100 || seen[api.ErrWorn] < 100 {
		t.Errorf("%v", seen)
	}
}

// Blocks that are all begun, with little in each that counts, as no writer leaves them: there is room for Limit and one more.
func TestBegun(t *testing.T) {
	c := fresh(t, 6, 4, 40)
	for block := 2; block < 6; block++ {
		for n := range 3 {
			lay(&c, block, n, data(t, block-2, uint64(n), "body", 40))
		}
	}
	lay(&c, 0, 0, rooted(t, 9, 40, 2*4+3, 3*4+2, 4*4+1, 5*4+3, 0, 0, 0, 0, 0))
	v, e := flash.Mount(c)
	if e != api.OK || bodiesOf(told(t, v)) != 4 {
		t.Fatal(e)
	}
	have := told(t, v)
	for _, l := range [][]api.Item{
		{item(4, "a"), item(5, "b"), item(6, "c"), item(7, "d"), item(8, "e")},
		{item(0, "a"), item(1, "b"), item(2, "c"), item(3, "d"), item(8, "e")},
		{item(0, "a"), item(3, "d"), item(5, "x"), {Id: 1}, {Id: 7}},
		{item(8, "a")},
	} {
		w := put(t, v, l...)
		holdBodies(t, "begun", w, behind(have, l))
		audit(t, "begun", v.Chip, nil, true, writing(v, l))
	}
}

// A body that is empty, which no write keeps, stays where others are moved for room.
func TestEmptyMoved(t *testing.T) {
	c := fresh(t, 5, 4, 32)
	lay(&c, 0, 0, rooted(t, 9, 32, 9, 0, 0))
	lay(&c, 2, 0, data(t, 0, 9, "", 32))
	for n := 1; n < 4; n++ {
		lay(&c, 2, n, data(t, 1, 8, "old", 32))
	}
	v, e := flash.Mount(c)
	if e != api.OK {
		t.Fatal(e)
	}
	for i := range 40 {
		v = put(t, v, item(1+i%2, fmt.Sprint(i)))
	}
	if v.Chip.Blocks[2].Worn == 0 {
		t.Fatal("nothing was moved")
	}
	if b, e := flash.Get(v, 0); e != api.OK || len(b) != 0 || v.At[0] == 0 {
		t.Errorf("%x, %d", b, e)
	}
}

// Pages that aren't blank, though they weren't programmed, are not programmed: their block is erased ahead, or left.
func TestDirty(t *testing.T) {
	for _, block := range []int{0, 1, 2, 3, 4, 5} {
		for n := range 3 {
			v := formatted(t, 6, 3, 32, 3)
			v.Chip.Blocks[block].Pages[2] = data(t, n, 1, "dirt", 32)
			if n > 0 {
				v.Chip.Blocks[block].Pages[n] = []byte(ones(32))
				v.Chip.Blocks[block].Pages[n][31] = 254
			}
			have := told(t, v)
			for i := range 30 {
				l := []api.Item{item(i%3, fmt.Sprint(i))}
				audit(t, "dirty", v.Chip, nil, false, writing(v, l))
				v, have = put(t, v, l...), behind(have, l)
				holdBodies(t, "dirty", v, have)
			}
		}
	}
}
