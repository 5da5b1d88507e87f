package flash

import (
	"slices"

	"byway/api"
	"byway/chip"
	"byway/page"
	"byway/wear"
)

// mostCount is how far a chip counts its operations, and how often a block was erased: then there are no more.
const mostCount = 1 << 40

// writer of a volume, whose chip it changes by each operation; what the volume tells it changes when a root tells it.
type writer struct {
	api.Vol
	// moving tells that bodies are moved: that isn't worth the last place that a root has.
	moving bool
}

// write items that may be written.
func (w *writer) write(l []api.Item) api.Errno {
	var laid []api.Item
	var ids, gone []int
	for _, x := range l {
		ids = append(ids, x.Id)
		if len(x.Body) > 0 {
			laid = append(laid, x)
		} else {
			gone = append(gone, x.Id)
		}
	}
	// A batch for which there was room finds none only where a block failed meanwhile, so just as often as there are blocks.
	for range w.Chip.Blocks {
		along, e := w.room(len(laid), ids)
		if e != api.OK {
			return e
		}
		if e := w.batch(w.Gen+1, slices.Concat(laid, along), gone); e != api.ErrFull {
			return e
		}
	}
	return api.ErrFull
}

// batch lays bodies in pages of a generation, takes others away, and puts the root that says so. ErrFull: the pages that were left aren't enough; ErrWorn: a root has no place.
func (w *writer) batch(gen uint64, laid []api.Item, gone []int) api.Errno {
	if !w.place() {
		return api.ErrWorn
	}
	next := slices.Clone(w.At)
	for _, id := range gone {
		next[id] = 0
	}
	for _, x := range laid {
		at, e := w.lay(x, gen, next)
		if e != api.OK {
			return e
		}
		next[x.Id] = at
	}
	return w.point(api.Roots{Gen: gen, At: next})
}

// lay a body in a page, and tell its place. What next tells counts already.
func (w *writer) lay(x api.Item, gen uint64, next []int) (int, api.Errno) {
	b, e := page.Put(api.Page{Kind: api.Data, Id: x.Id, Gen: gen, Body: x.Body}, w.Chip.Size)
	if e != api.OK {
		return 0, e
	}
	for {
		block, e := w.open(next)
		if e != api.OK {
			return 0, e
		}
		at := block*w.Chip.Pages + w.Chip.Blocks[block].Used + 1
		if e := w.program(block, b); e == api.OK {
			return at, api.OK
		} else if e != api.ErrWorn {
			return 0, e
		}
	}
}

// open a block that has a page left, and erase a dead one if there is none.
func (w *writer) open(next []int) (int, api.Errno) {
	for {
		l := w.held(w.At, next)
		if n, ok := wear.Front(l, w.Chip.Pages); ok {
			return n + rootBlocks, api.OK
		}
		n, ok := wear.Dead(l, w.Chip.Pages)
		if !ok {
			return 0, api.ErrFull
		}
		if e := w.erase(n + rootBlocks); e == api.ErrState {
			return 0, e
		}
	}
}

// room for so many pages, which some ids get, or no page any more. Behind that as many must be left as a block has: with these any block can be cleaned later. Twice as many are better, for a block that may fail. What is told is to be moved along with them.
func (w *writer) room(need int, ids []int) ([]api.Item, api.Errno) {
	if need == 0 {
		return nil, api.OK
	}
	spare, least := w.spare(), w.Chip.Pages
	if w.Chip.Blocks[0].Bad || w.Chip.Blocks[1].Bad {
		// Places for roots are few then, and to clean a block by itself takes one.
		least = 0
	}
	for w.free() < need || w.free(ids...) < need+2*w.Chip.Pages {
		if l, ok := w.along(need, ids); ok {
			return l, api.OK
		}
		if w.free() >= need && w.free(ids...) >= need+least {
			return nil, api.OK
		}
		e := w.clean()
		if e == api.ErrState {
			return nil, e
		}
		if e != api.OK {
			break
		}
	}
	if w.free() < need || w.free(ids...) < need+min(spare, w.spare()) {
		return nil, api.ErrFull
	}
	return nil, api.OK
}

// along are the bodies of a block that is cleaned by moving them, but for those of some ids, together with so many pages of these; false: there is none, or it isn't worth it.
func (w *writer) along(need int, ids []int) ([]api.Item, bool) {
	l := w.held(w.without(ids...))
	n, ok := wear.Victim(l, w.Chip.Pages)
	enough := w.free(ids...) >= need+w.Chip.Pages
	if !ok || w.free() < need+l[n].Live || enough && l[n].Live > w.Chip.Pages/2 {
		return nil, false
	}
	return w.bodies(n+rootBlocks, w.without(ids...)), true
}

// spare is how many pages a write must leave. Where a block failed, or not so many were left to begin with, none: then whatever has room is written.
func (w *writer) spare() int {
	failed := slices.ContainsFunc(w.Chip.Blocks, func(b api.Block) bool { return b.Bad })
	if failed || wear.Room(w.blocks(w.At), w.Chip.Pages) < w.Chip.Pages {
		return 0
	}
	return w.Chip.Pages
}

// free is how many pages can be programmed without more ado than to erase blocks that are full, and dead, if some ids have no bodies.
func (w *writer) free(ids ...int) int {
	return wear.Room(w.held(w.without(ids...)), w.Chip.Pages)
}

// without some ids' bodies, where the others are.
func (w *writer) without(ids ...int) []int {
	at := slices.Clone(w.At)
	for _, id := range ids {
		at[id] = 0
	}
	return at
}

// clean a block: its bodies are moved, with a root of their own. ErrNone: there is none to be cleaned; ErrWorn: nor a place for a root but the last one.
func (w *writer) clean() api.Errno {
	l := w.held(w.At)
	n, ok := wear.Victim(l, w.Chip.Pages)
	if !ok || l[n].Live > w.free() {
		return w.end()
	}
	gen := w.Gen + 1
	if gen == lastGen {
		// The last generation is that of what is written; what is moved ahead of it stays in the one that is.
		gen = w.Gen
	}
	w.moving = true
	e := w.batch(gen, w.bodies(n+rootBlocks, w.At), nil)
	w.moving = false
	if e == api.ErrFull {
		// There was room, so a block failed: it is known now, and the next one to be cleaned may be another one.
		return api.OK
	}
	return e
}

// bodies that are in a block, of ids that are at these places.
func (w *writer) bodies(block int, places []int) []api.Item {
	var l []api.Item
	for id, at := range places {
		if b, ok := body(w.Chip, id, at); ok && (at-1)/w.Chip.Pages == block {
			l = append(l, api.Item{Id: id, Body: b})
		}
	}
	return l
}

// end a block that is begun, to be cleaned or erased then. ErrNone: there is none.
func (w *writer) end() api.Errno {
	l := w.begun(w.At)
	n, ok := wear.Dead(l, w.Chip.Pages)
	if !ok {
		n, ok = wear.Victim(l, w.Chip.Pages)
		ok = ok && l[n].Live <= w.free()-w.left(n+rootBlocks)
	}
	if !ok {
		return api.ErrNone
	}
	if e := w.fill(n + rootBlocks); e == api.ErrState {
		return e
	}
	return api.OK
}

// blocks behind those for roots, as they may be written: what is behind a page that isn't erased is as if programmed, and what can be neither programmed nor erased is as if bad. In those that are bad nothing has to be moved.
func (w *writer) blocks(lists ...[]int) []api.Wear {
	l := known(w.Chip, lists...)
	for n := range l {
		left := w.left(n + rootBlocks)
		l[n].Used = w.Chip.Pages - left
		if left == 0 && !w.erasable(n+rootBlocks) {
			l[n].Bad, l[n].Live = true, 0
		}
	}
	return l
}

// held are the blocks, but one that is begun is as if something in it counted: it is erased when all its pages were programmed.
func (w *writer) held(lists ...[]int) []api.Wear {
	l := w.blocks(lists...)
	for n, b := range l {
		if 0 < b.Used && b.Used < w.Chip.Pages {
			l[n].Live = max(b.Live, 1)
		}
	}
	return l
}

// begun are the blocks that are begun, and in which not all counts, as if they were full; the others are as if bad.
func (w *writer) begun(lists ...[]int) []api.Wear {
	l := w.blocks(lists...)
	for n, b := range l {
		if b.Live < b.Used && b.Used < w.Chip.Pages && w.erasable(n+rootBlocks) {
			l[n].Used = w.Chip.Pages
		} else {
			l[n].Bad, l[n].Live = true, 0
		}
	}
	return l
}

// left is how many pages of a block can be programmed, one behind the other: those that are erased, from its next one on.
func (w *writer) left(block int) int {
	b := w.Chip.Blocks[block]
	if b.Bad || w.Chip.Ops >= mostCount {
		return 0
	}
	behind := b.Pages[b.Used:]
	n := slices.IndexFunc(behind, func(p []byte) bool { return !page.Blank(p) })
	if n < 0 {
		return len(behind)
	}
	return n
}

// erasable tells whether a block can be erased.
func (w *writer) erasable(block int) bool {
	b := w.Chip.Blocks[block]
	return !b.Bad && b.Worn < mostCount && w.Chip.Ops < mostCount
}

// program a block's next page. ErrWorn: there is none, or it failed.
func (w *writer) program(block int, b []byte) api.Errno {
	if w.left(block) == 0 {
		return api.ErrWorn
	}
	c, e := chip.Program(w.Chip, block, w.Chip.Blocks[block].Used, b)
	return w.done(block, c, e)
}

// erase a block. ErrWorn: it can't be, or it failed.
func (w *writer) erase(block int) api.Errno {
	if !w.erasable(block) {
		return api.ErrWorn
	}
	c, e := chip.Erase(w.Chip, block)
	return w.done(block, c, e)
}

// done is an operation on a block: the chip is that one now, and the block is bad if it failed.
func (w *writer) done(block int, c api.Chip, e api.Errno) api.Errno {
	if e == api.ErrWorn {
		c, _ = chip.Mark(c, block)
	}
	w.Chip = c
	return e
}

// fill a block up with pages that say nothing: none is erased but when all its pages were programmed.
func (w *writer) fill(block int) api.Errno {
	b, e := page.Put(api.Page{Kind: api.Data}, w.Chip.Size)
	for e == api.OK && w.left(block) > 0 {
		e = w.program(block, b)
	}
	return e
}

// renew a block: all of it is erased.
func (w *writer) renew(block int) api.Errno {
	if w.left(block) == w.Chip.Pages {
		return api.OK
	}
	if !w.erasable(block) {
		return api.ErrWorn
	}
	if e := w.fill(block); e != api.OK {
		return e
	}
	return w.erase(block)
}
