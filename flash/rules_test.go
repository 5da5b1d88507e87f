package flash_test

import (
	"fmt"
	"slices"
	"testing"

	"byway/api"
	"byway/flash"
)

// The document's rules.

// spareBytes stand in the spare room of bytes that are handed in.
var spareBytes = []byte{0xE7, 0xE7, 0xE7}

// roomyBytes is b with spare room behind it.
func roomyBytes(b []byte) []byte {
	return append(slices.Clone(b), spareBytes...)[:len(b)]
}

// roomyChip is a chip of its own memory, with spare room behind each of its lists, where others stand.
func roomyChip(c api.Chip) api.Chip {
	out := clone(c)
	for n, b := range out.Blocks {
		var pages [][]byte
		for _, p := range b.Pages {
			pages = append(pages, roomyBytes(p))
		}
		out.Blocks[n].Pages = append(pages, []byte{1}, []byte{2})[:len(pages)]
	}
	out.Blocks = append(out.Blocks, api.Block{Used: 3, Worn: 77, Bad: true, Pages: [][]byte{{9}}})[:len(c.Blocks)]
	out.Faults = append(out.Faults, api.Fault{Op: c.Ops, Cut: true}, api.Fault{Op: c.Ops, Fail: true})[:len(c.Faults)]
	return out
}

// roomyVol is such a volume.
func roomyVol(v api.Vol) api.Vol {
	at := append(slices.Clone(v.At), -77, 78)[:len(v.At)]
	return api.Vol{Chip: roomyChip(v.Chip), At: at, Gen: v.Gen, Last: v.Last}
}

// roomyItems are such items.
func roomyItems(l []api.Item) []api.Item {
	var out []api.Item
	for _, x := range l {
		out = append(out, api.Item{Id: x.Id, Body: roomyBytes(x.Body)})
	}
	return append(out, api.Item{Id: 0, Body: []byte{3}}, api.Item{Id: -5})[:len(l)]
}

// picture is all that is in a volume and in items, with what is in their spare room.
func picture(v api.Vol, l []api.Item) string {
	text := fmt.Sprint(v.Gen, v.Last, v.At[:cap(v.At)], v.Chip.Pages, v.Chip.Size, v.Chip.Ops, v.Chip.Off, v.Chip.Faults[:cap(v.Chip.Faults)])
	var all []byte
	for _, b := range v.Chip.Blocks[:cap(v.Chip.Blocks)] {
		text += fmt.Sprint(b.Used, b.Worn, b.Bad, len(b.Pages))
		for _, p := range b.Pages[:cap(b.Pages)] {
			all = append(append(all, byte(len(p))), p[:cap(p)]...)
		}
	}
	for _, x := range l[:cap(l)] {
		text += fmt.Sprint(x.Id, len(x.Body))
		all = append(all, x.Body[:cap(x.Body)]...)
	}
	return text + string(all)
}

// spoil all that is in a volume and in items, and in their spare room.
func spoil(v api.Vol, l []api.Item) {
	for _, b := range v.Chip.Blocks[:cap(v.Chip.Blocks)] {
		for _, p := range b.Pages[:cap(b.Pages)] {
			for i := range p[:cap(p)] {
				p[:cap(p)][i] ^= 0x5A
			}
		}
		clear(b.Pages[:cap(b.Pages)])
	}
	clear(v.Chip.Blocks[:cap(v.Chip.Blocks)])
	for i := range v.Chip.Faults[:cap(v.Chip.Faults)] {
		v.Chip.Faults[:cap(v.Chip.Faults)][i] = api.Fault{Op: 1 << 50, Fail: true}
	}
	for i := range v.At[:cap(v.At)] {
		v.At[:cap(v.At)][i] = 1<<20 + i
	}
	for _, x := range l[:cap(l)] {
		for i := range x.Body[:cap(x.Body)] {
			x.Body[:cap(x.Body)][i] ^= 0x5A
		}
	}
	clear(l[:cap(l)])
}

// ruled is a call on a volume, or its chip, and items: what it answers as a volume, and what it tells as a text.
type ruled struct {
	name string
	call func(v api.Vol, l []api.Item) (api.Vol, string)
}

func ruledCalls() []ruled {
	told := func(v api.Vol, e api.Errno) (api.Vol, string) { return v, fmt.Sprint(e) }
	out := []ruled{
		{"Write", func(v api.Vol, l []api.Item) (api.Vol, string) { return told(flash.Write(v, l)) }},
		{"Mount", func(v api.Vol, l []api.Item) (api.Vol, string) { return told(flash.Mount(v.Chip)) }},
		{"Right", func(v api.Vol, l []api.Item) (api.Vol, string) { return api.Vol{}, fmt.Sprint(flash.Right(v)) }},
		{"Known", func(v api.Vol, l []api.Item) (api.Vol, string) { return api.Vol{}, fmt.Sprint(flash.Known(v)) }},
	}
	for ids := range 4 {
		out = append(out, ruled{"Format", func(v api.Vol, l []api.Item) (api.Vol, string) { return told(flash.Format(v.Chip, ids)) }})
		out = append(out, ruled{"Get", func(v api.Vol, l []api.Item) (api.Vol, string) {
			b, e := flash.Get(v, ids-1)
			// What is told is no part of the volume: it may be changed.
			text := fmt.Sprint(b, e)
			for i := range b[:cap(b)] {
				b[:cap(b)][i] = 1
			}
			return api.Vol{}, text
		}})
	}
	return out
}

// ruledVols are volumes that are handed in, right ones and others.
func ruledVols(t *testing.T) []api.Vol {
	t.Helper()
	v := used(t)
	off := onVol(v)
	off.Chip.Off = true
	cut, faults := onVol(v, api.Fault{Op: v.Chip.Ops + 1, Cut: true}), onVol(v)
	for at := range 9 {
		faults.Chip.Faults = append(faults.Chip.Faults, api.Fault{Op: v.Chip.Ops + at, Fail: true, Mask: 255})
	}
	out := []api.Vol{v, off, cut, faults, ofGen(t, v, last), formatted(t, 4, 2, 24, 1)}
	m, _ := flash.Mount(laid(t))
	out = append(out, m)
	for _, w := range wrongVols(t) {
		out = append(out, w)
	}
	return append(out, someVols(t, 71, 5)...)
}

// What is handed in is not changed and not kept, its spare room neither, which isn't looked at either; what is answered is new memory, and the same again.
func TestHandedIn(t *testing.T) {
	lists := [][]api.Item{nil, {item(0, "zero")}, {item(0, "zero"), {Id: 1}, item(2, "two")}, {item(1, "x"), item(1, "y")}, {item(-1, "x")}, {{Id: 0, Body: make([]byte, 300)}}}
	for _, v := range ruledVols(t) {
		for _, l := range lists {
			for _, c := range ruledCalls() {
				what := fmt.Sprintf("%s of %s, %d items", c.name, short(v), len(l))
				in, items := roomyVol(v), roomyItems(l)
				was := picture(in, items)
				first, text := c.call(in, items)
				want := cloneVol(first)
				second, _ := c.call(in, items)
				spoil(second, nil)
				if picture(in, items) != was {
					t.Fatalf("%s: changed", what)
				}
				spoil(in, items)
				if !same(first, want) {
					t.Fatalf("%s: kept", what)
				}
				if again, textAgain := c.call(cloneVol(v), roomyItems(l)); !same(again, want) || text != textAgain {
					t.Fatalf("%s: not the same again: %s, %s", what, short(again), textAgain)
				}
			}
		}
	}
}

// Pages of a chip that are one, in memory, are each its own once the chip is mounted, and written.
func TestShared(t *testing.T) {
	c := fresh(t, 6, 3, 32)
	blank := ones(32)
	for n := range c.Blocks {
		for i := range c.Blocks[n].Pages {
			c.Blocks[n].Pages[i] = blank
		}
	}
	v, e := flash.Format(c, 4)
	if e != api.OK {
		t.Fatal(e)
	}
	have := told(t, v)
	for i := range 30 {
		l := []api.Item{item(i%3, fmt.Sprint(i))}
		v, have = put(t, v, l...), behind(have, l)
		holdBodies(t, "shared", v, have)
	}
	if !slices.Equal(blank, ones(32)) {
		t.Error("changed")
	}
}

// Of one volume, many at once: nothing of it is written.
func TestAtOnce(t *testing.T) {
	v := roomyVol(used(t))
	l := roomyItems([]api.Item{item(0, "zero"), {Id: 1}})
	was := picture(v, l)
	do := func() string {
		var text string
		for _, c := range ruledCalls() {
			w, told := c.call(v, l)
			text += told + short(w)
		}
		return text
	}
	want, got := do(), make(chan string)
	for range 8 {
		go func() { got <- do() }()
	}
	for range 8 {
		if text := <-got; text != want {
			t.Errorf("at once: %s, not %s", text, want)
		}
	}
	if picture(v, l) != was {
		t.Error("changed")
	}
}
