package flash

import (
	"slices"

	"byway/api"
	"byway/root"
)

// manyGens are so many that a chip that has a root behind them begins anew when it is formatted.
const manyGens = 1 << 47

// format the chip, on which there may be a volume.
func (w *writer) format(ids int) api.Errno {
	if n, r, e := newest(w.Chip); e == api.OK {
		w.Gen, w.Last = r.Gen, n/w.Chip.Pages
	}
	r := api.Roots{Gen: w.Gen + 1, At: make([]int, ids)}
	if w.Gen >= manyGens {
		r.Gen = 1
	}
	e := w.point(r)
	if e != api.ErrWorn {
		return e
	}
	if _, _, e := root.Newest(w.Chip.Blocks[1-w.Last].Pages); e == api.OK {
		// Were the last root erased now, power that goes then would bring back what this one says.
		return api.ErrWorn
	}
	if e := w.renew(w.Last); e != api.OK {
		return e
	}
	w.Gen = 0
	return w.point(r)
}

// place tells whether there is one for a newer root.
func (w *writer) place() bool {
	other, least := 1-w.Last, 1
	if w.moving {
		least = 2
	}
	return w.left(w.Last) >= least || w.left(other) > 0 || w.erasable(other)
}

// point to where the bodies are, by a root.
func (w *writer) point(r api.Roots) api.Errno {
	b, e := root.Put(r, w.Chip.Size)
	switch {
	case e != api.OK:
		return e
	case r.Gen > w.Gen:
		e = w.settle(b)
	default:
		e = w.restart(b)
	}
	if e == api.ErrState {
		return e
	}
	// Whatever failed, the newest root is the one that is mounted.
	n, is, e := newest(w.Chip)
	if e != api.OK || is.Gen != r.Gen || !slices.Equal(is.At, r.At) {
		return api.ErrWorn
	}
	w.At, w.Gen, w.Last = r.At, r.Gen, n/w.Chip.Pages
	return api.OK
}

// settle the page of a root that is newer than all others. The last block keeps a page, in which it has place if the other one fails.
func (w *writer) settle(b []byte) api.Errno {
	e := api.ErrWorn
	if w.left(w.Last) > 1 {
		e = w.program(w.Last, b)
	}
	if e == api.ErrWorn {
		e = w.cross(b)
	}
	if e == api.ErrWorn && !w.moving {
		e = w.program(w.Last, b)
	}
	return e
}

// cross over to the other block with a root's page. That block is erased ahead, but where it has pages enough, or its one page is all that is sure.
func (w *writer) cross(b []byte) api.Errno {
	other := 1 - w.Last
	if left := w.left(other); left == 0 || left == 1 && (w.moving || w.left(w.Last) > 0) {
		if e := w.renew(other); e != api.OK {
			return e
		}
	}
	return w.program(other, b)
}

// restart with the page of a root that isn't newer than the last one: it is the newest when that one is erased.
func (w *writer) restart(b []byte) api.Errno {
	other := 1 - w.Last
	if e := w.renew(other); e != api.OK {
		return e
	}
	if e := w.program(other, b); e != api.OK {
		return e
	}
	return w.renew(w.Last)
}
