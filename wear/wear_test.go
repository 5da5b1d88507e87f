package wear_test

import (
	"fmt"
	"maps"
	"math"
	"math/rand"
	"slices"
	"strconv"
	"strings"
	"testing"

	"byway/api"
	"byway/wear"
)

// What the tests hold the layer against: blocks that are drawn, a letter a page: # one that counts, x one that was programmed and doesn't count, . one that wasn't; ! ahead of them is a bad block.

// limit of how often a block is erased.
const limit = 1 << 40

// drawn are a right block's pages.
func drawn(w api.Wear, pages int) string {
	return strings.Repeat("#", w.Live) + strings.Repeat("x", w.Used-w.Live) + strings.Repeat(".", pages-w.Used)
}

// laid is a block that is drawn, and how often it was erased: "!#x.. 3".
func laid(text string) api.Wear {
	pages, worn, _ := strings.Cut(text, " ")
	n, err := strconv.Atoi(worn)
	if err != nil {
		panic(text)
	}
	count := strings.Count(pages, "#")
	return api.Wear{Live: count, Used: count + strings.Count(pages, "x"), Worn: n, Bad: strings.HasPrefix(pages, "!")}
}

// blocks that are drawn.
func blocks(texts ...string) []api.Wear {
	var l []api.Wear
	for _, text := range texts {
		l = append(l, laid(text))
	}
	return l
}

// free tells of a block as it is drawn.
func free(w api.Wear, pages int) bool {
	return !w.Bad && strings.Contains(drawn(w, pages), ".")
}

// dead tells of a block as it is drawn.
func dead(w api.Wear, pages int) bool {
	d := drawn(w, pages)
	return !w.Bad && strings.Contains(d, "x") && !strings.Contains(d, "#")
}

// mixed tells of a block as it is drawn.
func mixed(w api.Wear, pages int) bool {
	d := drawn(w, pages)
	return strings.Contains(d, "#") && (w.Bad || strings.Contains(d, "x") && !strings.Contains(d, "."))
}

// right by each number.
func right(l []api.Wear, pages int) bool {
	if len(l) == 0 || len(l) >= 33 || pages <= 0 || pages >= 17 {
		return false
	}
	for _, w := range l {
		if w.Live < 0 || w.Used < w.Live || w.Used > pages {
			return false
		}
		if w.Worn < 0 || w.Worn > limit {
			return false
		}
	}
	return true
}

// choice by sorting: of those that fit, by what rank tells, the least ahead.
func choice(l []api.Wear, pages int, fits func(api.Wear, int) bool, rank func(api.Wear) []int) (int, bool) {
	if !right(l, pages) {
		return 0, false
	}
	var ranks [][]int
	for n, w := range l {
		if fits(w, pages) {
			ranks = append(ranks, append(rank(w), n))
		}
	}
	if len(ranks) == 0 {
		return 0, false
	}
	slices.SortFunc(ranks, slices.Compare)
	return ranks[0][len(ranks[0])-1], true
}

// front is what Front should tell.
func front(l []api.Wear, pages int) (int, bool) {
	return choice(l, pages, free, func(w api.Wear) []int { return []int{-w.Used, w.Worn} })
}

// dying is what Dead should tell.
func dying(l []api.Wear, pages int) (int, bool) {
	return choice(l, pages, dead, func(w api.Wear) []int { return []int{w.Worn} })
}

// victim is what Victim should tell.
func victim(l []api.Wear, pages int) (int, bool) {
	return choice(l, pages, mixed, func(w api.Wear) []int {
		if w.Bad {
			return []int{0, w.Live, w.Worn}
		}
		return []int{1, w.Live, w.Worn}
	})
}

// room is what Room should tell.
func room(l []api.Wear, pages int) int {
	all := 0
	for n := range l {
		switch {
		case !right(l, pages):
			return 0
		case dead(l[n], pages):
			all += pages
		case !l[n].Bad:
			all += strings.Count(drawn(l[n], pages), ".")
		}
	}
	return all
}

// spread is what Spread should tell: the most by which one that isn't bad is worn more than another one; 0, if the list is right with no number of pages.
func spread(l []api.Wear) int {
	most := 0
	for _, a := range l {
		for _, b := range l {
			if !right(l, 16) {
				return 0
			}
			if !a.Bad && !b.Bad {
				most = max(most, a.Worn-b.Worn)
			}
		}
	}
	return most
}

// choosing is a call that chooses a block.
type choosing func([]api.Wear, int) (int, bool)

// hold that all calls answer as they should.
func hold(t *testing.T, l []api.Wear, pages int) {
	t.Helper()
	if got, want := wear.Right(l, pages), right(l, pages); got != want {
		t.Fatalf("Right(%v, %d): %v", l, pages, got)
	}
	chosen(t, "Front", wear.Front, front, l, pages)
	chosen(t, "Dead", wear.Dead, dying, l, pages)
	chosen(t, "Victim", wear.Victim, victim, l, pages)
	if got, want := wear.Room(l, pages), room(l, pages); got != want {
		t.Fatalf("Room(%v, %d): %d, not %d", l, pages, got, want)
	}
	if got, want := wear.Spread(l), spread(l); got != want {
		t.Fatalf("Spread(%v): %d, not %d", l, got, want)
	}
}

// chosen holds that a call chooses as it should.
func chosen(t *testing.T, name string, call, should choosing, l []api.Wear, pages int) {
	t.Helper()
	n, ok := call(l, pages)
	if want, has := should(l, pages); n != want || ok != has {
		t.Fatalf("%s(%v, %d): %d, %v; not %d, %v", name, l, pages, n, ok, want, has)
	}
}

// is holds that a call chooses this block.
func is(t *testing.T, name string, call choosing, l []api.Wear, pages, want int) {
	t.Helper()
	if n, ok := call(l, pages); !ok || n != want {
		t.Errorf("%s(%v, %d): %d, %v; not %d", name, l, pages, n, ok, want)
	}
}

// none holds that a call chooses none.
func none(t *testing.T, name string, call choosing, l []api.Wear, pages int) {
	t.Helper()
	if n, ok := call(l, pages); ok || n != 0 {
		t.Errorf("%s(%v, %d): %d, %v; not 0, false", name, l, pages, n, ok)
	}
}

// nothing holds that what isn't right answers nothing, in each call that knows how many pages there are.
func nothing(t *testing.T, what string, l []api.Wear, pages int) {
	t.Helper()
	if wear.Right(l, pages) {
		t.Errorf("%s: right", what)
	}
	for name, call := range choosings() {
		if n, ok := call(l, pages); ok || n != 0 {
			t.Errorf("%s: %s: %d, %v", what, name, n, ok)
		}
	}
	if n := wear.Room(l, pages); n != 0 {
		t.Errorf("%s: Room: %d", what, n)
	}
}

// choosings are the calls that choose a block.
func choosings() map[string]choosing {
	return map[string]choosing{"Front": wear.Front, "Dead": wear.Dead, "Victim": wear.Victim}
}

// Inputs.

// far are numbers far from what may be; some would be right by their last bits, or if they wrapped round.
var far = []int{limit + 1, limit + 2, 1 << 41, 1<<41 + 3, 1 << 48, 1<<62 + 1, math.MaxInt - 1, math.MaxInt,
	-1, -2, -16, -256, -1 << 16, -1 << 31, -1 << 32, 1 - 1<<32, -limit, -limit - 1, math.MinInt, math.MinInt + 1, math.MinInt + 2}

// high are numbers that are too great for pages, though not for how often a block is erased.
var high = []int{17, 18, 255, 256, 257, 1 << 16, 1<<16 + 1, 1<<31 - 1, 1 << 31, 1 << 32, 1<<32 + 1, 1<<32 + 4, limit - 1, limit}

// all that each call has something to tell of, of four pages: neither the first nor the last one is chosen.
func all() []api.Wear {
	return blocks("#### 5", "##.. 4", "!#x.. 3", "xxxx 2", "###. 1", "#xxx 7", "!.... 0", "xx.. 9", "#### 6")
}

// kinds are all right blocks of so many pages, worn so, bad and not.
func kinds(pages int, worn ...int) []api.Wear {
	var l []api.Wear
	for used := range pages + 1 {
		for live := range used + 1 {
			for _, n := range worn {
				l = append(l, api.Wear{Live: live, Used: used, Worn: n}, api.Wear{Live: live, Used: used, Worn: n, Bad: true})
			}
		}
	}
	return l
}

// fresh blocks: none was programmed, nor erased.
func fresh(many int) []api.Wear {
	return make([]api.Wear, many)
}

// with is l, but for one block.
func with(l []api.Wear, at int, w api.Wear) []api.Wear {
	l = slices.Clone(l)
	l[at] = w
	return l
}

// wrongAlways are blocks that aren't right, of however many pages, each for one cause.
func wrongAlways() map[string]api.Wear {
	out := map[string]api.Wear{
		"Live below 0, Used 0":      {Live: -1},
		"Live below 0, Used 4":      {Live: -1, Used: 4},
		"Live and Used below 0":     {Live: -1, Used: -1},
		"Live still less than Used": {Live: -3, Used: -2},
		"Used below 0":              {Used: -1},
		"Live one more than Used":   {Live: 3, Used: 2},
		"Live 1, Used 0":            {Live: 1},
		"Live 4, Used 3":            {Live: 4, Used: 3},
		"Worn below 0":              {Worn: -1},
		"Worn one more":             {Live: 1, Used: 4, Worn: limit + 1},
		"Used 17":                   {Used: 17},
		"Used 17, and Live":         {Live: 17, Used: 17},
	}
	for _, n := range far {
		out[fmt.Sprint("Live ", n)] = api.Wear{Live: n, Used: 4}
		out[fmt.Sprint("Used ", n)] = api.Wear{Used: n}
		out[fmt.Sprint("Used, and Live ", n)] = api.Wear{Live: n, Used: n}
		out[fmt.Sprint("Worn ", n)] = api.Wear{Worn: n}
	}
	for _, n := range high {
		out[fmt.Sprint("Live ", n)] = api.Wear{Live: n, Used: 4}
		out[fmt.Sprint("Used ", n)] = api.Wear{Used: n}
		out[fmt.Sprint("Used, and Live ", n)] = api.Wear{Live: n, Used: n}
	}
	return out
}

// wrongOfFour are blocks that aren't right, of four pages; some are of more.
func wrongOfFour() map[string]api.Wear {
	out := wrongAlways()
	maps.Copy(out, map[string]api.Wear{
		"Used one more":           {Used: 5},
		"Used one more, and Live": {Live: 5, Used: 5},
		"Used one more, Live 4":   {Live: 4, Used: 5},
		"Used 16":                 {Used: 16},
	})
	return out
}

// both ways that a block is: not bad, and bad.
func both(w api.Wear) []api.Wear {
	bad := w
	bad.Bad = true
	return []api.Wear{w, bad}
}

// P9.1

// The chapter's example.
func TestExample(t *testing.T) {
	is(t, "Dead", wear.Dead, []api.Wear{{Used: 4, Worn: 3}, {Used: 4, Worn: 2}}, 4, 1)
	is(t, "Dead", wear.Dead, []api.Wear{{Used: 1, Worn: 3}, {Used: 2, Worn: 2}}, 8, 1)
}

// Blocks of each kind beside one another.
func TestKindsTogether(t *testing.T) {
	l := all()
	if !wear.Right(l, 4) {
		t.Error("not right")
	}
	is(t, "Front", wear.Front, l, 4, 4)
	is(t, "Dead", wear.Dead, l, 4, 3)
	is(t, "Victim", wear.Victim, l, 4, 2)
	is(t, "Victim, none of the mixed ones bad", wear.Victim, with(l, 2, laid("!xx.. 3")), 4, 5)
	if n := wear.Room(l, 4); n != 2+4+1+4 {
		t.Errorf("Room: %d", n)
	}
	if n := wear.Spread(l); n != 8 {
		t.Errorf("Spread: %d", n)
	}
	hold(t, l, 4)
}

// How many blocks, and of how many pages.
func TestRightMany(t *testing.T) {
	for many := range 70 {
		for pages := -3; pages < 20; pages++ {
			want := 1 <= many && many <= 32 && 1 <= pages && pages <= 16
			if got := wear.Right(fresh(many), pages); got != want {
				t.Errorf("%d blocks of %d pages: %v", many, pages, got)
			}
			hold(t, fresh(many), pages)
		}
	}
	nothing(t, "no list", nil, 4)
	nothing(t, "an empty list", []api.Wear{}, 4)
	nothing(t, "33 dead ones", slices.Repeat(blocks("xxxx 1"), 33), 4)
	nothing(t, "33 mixed ones", slices.Repeat(blocks("#xxx 1"), 33), 4)
	nothing(t, "far too many", fresh(1<<16+1), 4)
	for _, pages := range slices.Concat(far, high, []int{0}) {
		nothing(t, fmt.Sprint(pages, " pages"), fresh(3), pages)
		nothing(t, fmt.Sprint(pages, " pages, blocks of four"), all(), pages)
	}
}

// Each Live and Used, by themselves, of each number of pages.
func TestRightEach(t *testing.T) {
	for pages := 1; pages <= 16; pages++ {
		for used := -3; used < 21; used++ {
			for live := -3; live < 21; live++ {
				want := live >= 0 && live <= used && used <= pages
				for _, w := range both(api.Wear{Live: live, Used: used}) {
					if got := wear.Right([]api.Wear{w}, pages); got != want {
						t.Errorf("%v, of %d pages: %v", w, pages, got)
					}
					hold(t, []api.Wear{w}, pages)
				}
			}
		}
	}
}

// How often a block was erased.
func TestRightWorn(t *testing.T) {
	for _, n := range []int{0, 1, 2, 1<<31 - 1, 1 << 31, 1 << 32, limit - 1, limit} {
		for _, w := range both(api.Wear{Live: 1, Used: 4, Worn: n}) {
			if !wear.Right([]api.Wear{w}, 4) {
				t.Errorf("%v: not right", w)
			}
			hold(t, []api.Wear{w}, 4)
			hold(t, with(all(), 5, w), 4)
		}
	}
	for _, n := range far {
		for _, w := range both(api.Wear{Live: 1, Used: 4, Worn: n}) {
			nothing(t, fmt.Sprint("Worn ", n), []api.Wear{w}, 4)
			nothing(t, fmt.Sprint("Worn ", n, " among others"), with(all(), 5, w), 4)
		}
	}
}

// What isn't right, for one block at each place among others that are.
func TestWrongBlock(t *testing.T) {
	for what, w := range wrongOfFour() {
		for _, w := range both(w) {
			nothing(t, what, []api.Wear{w}, 4)
			for at := range all() {
				nothing(t, fmt.Sprint(what, " at ", at), with(all(), at, w), 4)
			}
			for at := range 32 {
				nothing(t, fmt.Sprint(what, " at ", at, " of 32"), with(slices.Repeat(blocks("##.. 1", "xxxx 2", "#xxx 3", "!#xx. 4"), 8), at, w), 4)
			}
		}
	}
}

// What is right with more pages isn't with fewer.
func TestFewerPages(t *testing.T) {
	for used := 1; used <= 16; used++ {
		l := []api.Wear{{Used: 1, Worn: 3}, {Live: used - 1, Used: used, Worn: 1}, {Used: 0, Worn: 2}}
		for pages := 1; pages <= 16; pages++ {
			if got := wear.Right(l, pages); got != (used <= pages) {
				t.Errorf("Used %d, of %d pages: %v", used, pages, got)
			}
			hold(t, l, pages)
		}
	}
}

// What each block by itself is: free, dead, mixed, and how many pages may be programmed in it.
func TestKinds(t *testing.T) {
	for _, c := range []struct {
		text              string
		front, dead, vict bool
		room              int
	}{
		{".... 0", true, false, false, 4},
		{"x... 0", true, true, false, 4},
		{"xx.. 0", true, true, false, 4},
		{"xxx. 0", true, true, false, 4},
		{"xxxx 0", false, true, false, 4},
		{"#... 0", true, false, false, 3},
		{"#x.. 0", true, false, false, 2},
		{"##.. 0", true, false, false, 2},
		{"#xx. 0", true, false, false, 1},
		{"###. 0", true, false, false, 1},
		{"#xxx 0", false, false, true, 0},
		{"##xx 0", false, false, true, 0},
		{"###x 0", false, false, true, 0},
		{"#### 0", false, false, false, 0},
		{"!.... 0", false, false, false, 0},
		{"!x... 0", false, false, false, 0},
		{"!xxxx 0", false, false, false, 0},
		{"!#... 0", false, false, true, 0},
		{"!#x.. 0", false, false, true, 0},
		{"!###. 0", false, false, true, 0},
		{"!#xxx 0", false, false, true, 0},
		{"!###x 0", false, false, true, 0},
		{"!#### 0", false, false, true, 0},
		{". 0", true, false, false, 1},
		{"x 0", false, true, false, 1},
		{"# 0", false, false, false, 0},
		{"!. 0", false, false, false, 0},
		{"!x 0", false, false, false, 0},
		{"!# 0", false, false, true, 0},
		{"................ 0", true, false, false, 16},
		{"xxxxxxxxxxxxxxx. 0", true, true, false, 16},
		{"xxxxxxxxxxxxxxxx 0", false, true, false, 16},
		{"###############. 0", true, false, false, 1},
		{"###############x 0", false, false, true, 0},
		{"################ 0", false, false, false, 0},
		{"!################ 0", false, false, true, 0},
	} {
		l := blocks(c.text)
		pages := len(strings.TrimPrefix(strings.TrimSuffix(c.text, " 0"), "!"))
		for name, want := range map[string]bool{"Front": c.front, "Dead": c.dead, "Victim": c.vict} {
			if n, ok := choosings()[name](l, pages); ok != want || n != 0 {
				t.Errorf("%s of %s: %d, %v", name, c.text, n, ok)
			}
		}
		if n := wear.Room(l, pages); n != c.room {
			t.Errorf("Room of %s: %d, not %d", c.text, n, c.room)
		}
	}
}

// Where none is free, dead or mixed.
func TestNone(t *testing.T) {
	for name, texts := range map[string][]string{
		"Front":  {"#### 0", "xxxx 1", "#xxx 2", "!.... 3", "!#... 4", "!x... 5"},
		"Dead":   {"#### 0", ".... 1", "#... 2", "#xxx 3", "!xxxx 4", "!x... 5", "!.... 6"},
		"Victim": {"#### 0", ".... 1", "xxxx 2", "###. 3", "#xx. 4", "!.... 5", "!xxxx 6", "!x... 7"},
	} {
		call := choosings()[name]
		none(t, name, call, blocks(texts...), 4)
		none(t, name, call, slices.Repeat(blocks(texts...), 4), 4)
		for _, text := range texts {
			none(t, name, call, blocks(text), 4)
			none(t, name, call, slices.Repeat(blocks(text), 32), 4)
		}
	}
}

// order of two blocks for a call; the first is ahead, or they are alike.
type order struct {
	name        string
	left, right string
	alike       bool
}

// orders in which each call has two blocks.
func orders() []order {
	return []order{
		{"Front", "#... 9", ".... 0", false},
		{"Front", "xxx. 9", "##.. 0", false},
		{"Front", "##.. 9", "x... 3", false},
		{"Front", "xxx. 1099511627776", "###. 1099511627776", true},
		{"Front", "##.. 3", "##.. 4", false},
		{"Front", "##.. 3", "xx.. 4", false},
		{"Front", "xx.. 3", "#x.. 4", false},
		{"Front", ".... 0", ".... 1", false},
		{"Front", ".... 1099511627775", ".... 1099511627776", false},
		{"Front", "x... 0", "x... 4294967296", false},
		{"Front", ".... 2", ".... 2", true},
		{"Front", "###. 2", "#xx. 2", true},
		{"Dead", "xxxx 2", "xxxx 3", false},
		{"Dead", "xxxx 2", "x... 3", false},
		{"Dead", "x... 2", "xxxx 3", false},
		{"Dead", "xx.. 0", "xxx. 1099511627776", false},
		{"Dead", "xx.. 1", "xx.. 4294967296", false},
		{"Dead", "xxxx 2", "xxxx 2", true},
		{"Dead", "x... 2", "xxxx 2", true},
		{"Victim", "!#### 9", "#xxx 0", false},
		{"Victim", "!##.. 9", "##xx 0", false},
		{"Victim", "!#... 0", "#xxx 0", false},
		{"Victim", "!#xxx 1099511627776", "#xxx 0", false},
		{"Victim", "#xxx 9", "##xx 0", false},
		{"Victim", "##xx 9", "###x 0", false},
		{"Victim", "!#... 9", "!##.. 0", false},
		{"Victim", "!###. 9", "!#### 0", false},
		{"Victim", "!#xxx 9", "!##.. 3", false},
		{"Victim", "#xxx 3", "#xxx 4", false},
		{"Victim", "###x 0", "###x 4294967296", false},
		{"Victim", "!##.. 3", "!##xx 4", false},
		{"Victim", "!##xx 3", "!##.. 4", false},
		{"Victim", "#xxx 2", "#xxx 2", true},
		{"Victim", "!#... 2", "!#xxx 2", true},
		{"Victim", "!#### 1099511627776", "!#### 1099511627776", true},
	}
}

// others of which the call chooses none.
func others(name string, many int) []api.Wear {
	l := map[string][]api.Wear{
		"Front":  blocks("#### 0", "!.... 0", "xxxx 0", "!#x.. 0"),
		"Dead":   blocks("#### 0", "!xxxx 0", ".... 0", "#xxx 0"),
		"Victim": blocks("#### 0", "!.... 0", "xxxx 0", "#x.. 0"),
	}[name]
	return slices.Repeat(l, many/len(l)+1)[:many]
}

// Two blocks in each order, at each two places among others that aren't chosen; of those alike the first.
func TestOrders(t *testing.T) {
	for _, o := range orders() {
		call := choosings()[o.name]
		for _, many := range []int{2, 3, 7, 32} {
			for i := range many {
				for k := range i {
					ahead := with(with(others(o.name, many), k, laid(o.left)), i, laid(o.right))
					is(t, o.name, call, ahead, 4, k)
					behind := with(with(others(o.name, many), k, laid(o.right)), i, laid(o.left))
					if o.alike {
						is(t, o.name, call, behind, 4, k)
					} else {
						is(t, o.name, call, behind, 4, i)
					}
				}
			}
		}
	}
}

// Ties, one order behind the other: so many alike, and the one that is chosen goes each time.
func TestOneBehindTheOther(t *testing.T) {
	for name, c := range map[string]struct {
		texts []string
		want  []int
	}{
		"Front": {
			[]string{"#### 0", ".... 1", "###. 7", "x... 0", "xxx. 5", "##.. 9", "!###. 0", "#xx. 5", "xx.. 8", ".... 0", ".... 1"},
			[]int{4, 7, 2, 8, 5, 3, 9, 1, 10},
		},
		"Dead": {
			[]string{"#### 0", "xxxx 7", "x... 5", "!xxxx 0", "xx.. 9", "xxxx 5", "xxx. 0", "#xxx 0", "x... 7"},
			[]int{6, 2, 5, 1, 8, 4},
		},
		"Victim": {
			[]string{"#### 0", "##xx 3", "!###. 0", "#xxx 8", "!#... 7", "#xxx 2", "!.... 0", "!#xxx 6", "#xxx 2", "!###x 0", "!#x.. 6", "##xx 1", "###x 0", "!#### 0"},
			[]int{7, 10, 4, 2, 9, 13, 5, 8, 3, 11, 1, 12},
		},
	} {
		l := blocks(c.texts...)
		for _, want := range c.want {
			is(t, name, choosings()[name], l, 4, want)
			// Full of what counts, and not bad: no call chooses it.
			l[want] = laid("#### 0")
		}
		none(t, name, choosings()[name], l, 4)
	}
}

// Bad blocks alone: with something that counts one is a victim, without none is.
func TestBad(t *testing.T) {
	l := blocks("!.... 3", "!xxxx 1", "!x... 0", "!xxx. 9")
	for name, call := range choosings() {
		none(t, name, call, l, 4)
	}
	hold(t, l, 4)
	l = append(l, laid("!##.. 5"))
	is(t, "Victim", wear.Victim, l, 4, 4)
	none(t, "Front", wear.Front, l, 4)
	none(t, "Dead", wear.Dead, l, 4)
	l = append(l, laid("#xxx 0"))
	is(t, "Victim", wear.Victim, l, 4, 4)
	is(t, "Victim, but the bad one", wear.Victim, with(l, 4, laid("!xx.. 5")), 4, 5)
}

// Each block of each number of pages; each two of up to four, and each three of up to three.
func TestAll(t *testing.T) {
	for pages := 1; pages <= 16; pages++ {
		for _, a := range kinds(pages, 0, 1, limit) {
			hold(t, []api.Wear{a}, pages)
		}
	}
	for pages := 1; pages <= 4; pages++ {
		for _, a := range kinds(pages, 0, 1, 2) {
			for _, b := range kinds(pages, 0, 1, 2) {
				hold(t, []api.Wear{a, b}, pages)
			}
		}
	}
	for pages := 1; pages <= 3; pages++ {
		l := kinds(pages, 0, 1)
		for _, a := range l {
			for _, b := range l {
				for _, c := range l {
					hold(t, []api.Wear{a, b, c}, pages)
				}
			}
		}
	}
}

// random blocks, many of them alike; now and then one isn't right.
func random(r *rand.Rand, pages int) []api.Wear {
	l := fresh(r.Intn(34))
	worn := []int{1, 3, 10, limit + 1}[r.Intn(4)]
	for n := range l {
		used := r.Intn(pages + 1)
		if r.Intn(2) == 0 {
			used = pages
		}
		l[n] = api.Wear{Live: r.Intn(used + 1), Used: used, Worn: r.Intn(worn), Bad: r.Intn(8) == 0}
		if r.Intn(3) == 0 {
			l[n].Live = 0
		}
	}
	if len(l) > 0 && r.Intn(6) == 0 {
		w := &l[r.Intn(len(l))]
		*[]*int{&w.Live, &w.Used, &w.Worn}[r.Intn(3)] += []int{-1, 1, 16, limit}[r.Intn(4)]
	}
	return l
}

func TestRandom(t *testing.T) {
	r := rand.New(rand.NewSource(9))
	seen := map[bool]int{}
	for range 40000 {
		pages := 1 + r.Intn(16)
		l := random(r, pages)
		seen[right(l, pages)]++
		hold(t, l, pages)
		hold(t, l, pages-1)
		hold(t, l, pages+1)
	}
	if seen[true] < 4000 || seen[false] < 4000 {
		t.Errorf("not both: %v", seen)
	}
}

// P9.2

func TestRoom(t *testing.T) {
	for _, c := range []struct {
		want  int
		texts []string
	}{
		{0, []string{"#### 0"}},
		{4, []string{".... 0"}},
		{4, []string{"xxxx 0"}},
		{4, []string{"xx.. 0"}},
		{2, []string{"#x.. 0"}},
		{0, []string{"#xxx 0"}},
		{0, []string{"!.... 0"}},
		{0, []string{"!xxxx 0", "!#... 1", "!x... 2"}},
		{8, []string{"xxxx 0", "xxxx 0"}},
		{8, []string{"x... 0", "xxxx 5"}},
		{7, []string{"#... 0", "x... 0", "#### 1", "!.... 2"}},
		{128, slices.Repeat([]string{"xxxx 0"}, 32)},
		{128, slices.Repeat([]string{".... 1"}, 32)},
		{96, slices.Repeat([]string{"#... 1"}, 32)},
		{0, slices.Repeat([]string{"!.... 1"}, 32)},
	} {
		if got := wear.Room(blocks(c.texts...), 4); got != c.want {
			t.Errorf("Room(%v): %d, not %d", c.texts, got, c.want)
		}
	}
	if n := wear.Room(fresh(32), 16); n != 512 {
		t.Errorf("Room of all: %d", n)
	}
	if n := wear.Room(fresh(33), 16); n != 0 {
		t.Errorf("Room of 33: %d", n)
	}
}

func TestSpread(t *testing.T) {
	for _, c := range []struct {
		want  int
		texts []string
	}{
		{0, []string{".... 0"}},
		{0, []string{".... 7"}},
		{0, []string{"#### 1099511627776"}},
		{0, []string{"!.... 7"}},
		{0, []string{"!.... 7", "!#### 2", "!xxxx 9"}},
		{0, []string{"!.... 7", "#### 2", "!xxxx 9"}},
		{0, []string{"#### 2", ".... 2", "xxxx 2"}},
		{3, []string{"#### 2", ".... 5"}},
		{3, []string{"#### 5", ".... 2"}},
		{5, []string{"#### 3", ".... 1", "xxxx 6", "#xxx 2"}},
		{5, []string{"#### 6", ".... 3", "xxxx 1", "#xxx 2"}},
		{2, []string{"!#### 0", ".... 3", "xxxx 5", "!#xxx 9"}},
		{1 << 40, []string{"#### 0", ".... 1099511627776"}},
		{1<<40 - 1, []string{"#### 1099511627776", ".... 1"}},
		{0, []string{"!#### 0", ".... 1099511627776"}},
		{31, strings.Split(strings.Repeat("#### 9,", 30)+"xxxx 40,.... 31", ",")},
		{1, strings.Split(strings.Repeat("#### 1099511627776,", 31)+"xxxx 1099511627775", ",")},
	} {
		if got := wear.Spread(blocks(c.texts...)); got != c.want {
			t.Errorf("Spread(%v): %d, not %d", c.texts, got, c.want)
		}
	}
	for _, l := range [][]api.Wear{nil, {}} {
		if n := wear.Spread(l); n != 0 {
			t.Errorf("Spread of none: %d", n)
		}
	}
}

// What is right with no number of pages has no spread; what is right with some has.
func TestSpreadWrong(t *testing.T) {
	two := blocks("#### 2", ".... 5")
	for what, w := range wrongAlways() {
		for _, w := range both(w) {
			for at := range 3 {
				if n := wear.Spread(slices.Insert(slices.Clone(two), at, w)); n != 0 {
					t.Errorf("%s at %d: %d", what, at, n)
				}
			}
		}
	}
	for many := range 70 {
		l := fresh(many)
		if many > 0 {
			l[many/2].Worn = 3
		}
		want := 0
		if 2 <= many && many <= 32 {
			want = 3
		}
		if n := wear.Spread(l); n != want {
			t.Errorf("%d blocks: %d, not %d", many, n, want)
		}
	}
	for used := range 17 {
		if n := wear.Spread(append(blocks("#### 2", ".... 5"), api.Wear{Live: used, Used: used, Worn: 1})); n != 4 {
			t.Errorf("Used %d: %d", used, n)
		}
	}
}

// P9.3

// Who is dead has nothing that counts, and is programmed, and not bad: nothing is lost where it is erased.
func TestDeadCountsNothing(t *testing.T) {
	r := rand.New(rand.NewSource(93))
	found := 0
	for range 20000 {
		pages := 1 + r.Intn(16)
		l := random(r, pages)
		n, ok := wear.Dead(l, pages)
		if !ok {
			continue
		}
		found++
		if w := l[n]; w.Live != 0 || w.Used == 0 || w.Bad {
			t.Fatalf("Dead(%v, %d): %v", l, pages, w)
		}
	}
	if found < 4000 {
		t.Errorf("but %d dead ones", found)
	}
}

// Where something counts in each block, none is dead, however little it is.
func TestNoneDeadThatCounts(t *testing.T) {
	for pages := 1; pages <= 16; pages++ {
		var l []api.Wear
		for used := 1; used <= pages; used++ {
			for live := 1; live <= used; live++ {
				w := api.Wear{Live: live, Used: used}
				none(t, "Dead", wear.Dead, []api.Wear{w}, pages)
				l = append(l, w)
			}
		}
		for part := range slices.Chunk(l, 32) {
			none(t, "Dead", wear.Dead, part, pages)
		}
	}
}

// The document's rules.

// spare is a block that each call would tell of otherwise, if it looked at a list's spare room.
var spare = []api.Wear{laid("xxx. 0"), laid("!#xxx 0"), laid("xxxx 0"), {Live: -1, Worn: limit + 5}}

// guarded is l with spare room behind it; what comes with it tells whether any of it was changed.
func guarded(l []api.Wear) ([]api.Wear, func() bool) {
	room := append(slices.Clone(l), slices.Repeat(spare, 10)...)
	was := slices.Clone(room)
	return room[:len(l)], func() bool { return !slices.Equal(room, was) }
}

// spoil a list, its spare room too.
func spoil(l []api.Wear) {
	room := l[:cap(l)]
	for i := range room {
		room[i] = api.Wear{Live: 2, Used: 3, Worn: 77 + i, Bad: !room[i].Bad}
	}
}

// told is what all calls answer, as text.
func told(l []api.Wear, pages int) string {
	var b strings.Builder
	for _, call := range []choosing{wear.Front, wear.Dead, wear.Victim} {
		n, ok := call(l, pages)
		fmt.Fprintln(&b, n, ok)
	}
	fmt.Fprintln(&b, wear.Right(l, pages), wear.Room(l, pages), wear.Spread(l))
	return b.String()
}

// ruled are lists that are handed in, right ones and others.
func ruled() [][]api.Wear {
	l := [][]api.Wear{nil, {}, all(), fresh(1), fresh(32), fresh(33), blocks("!#### 1", "!.... 0"), blocks("x 3", "x 2"), slices.Repeat(blocks("#xxx 3", "xx.. 2"), 16)}
	for _, w := range wrongOfFour() {
		l = append(l, []api.Wear{w}, with(all(), 3, w))
	}
	r := rand.New(rand.NewSource(4))
	for range 300 {
		l = append(l, random(r, 4))
	}
	return l
}

// What is handed in is not changed, nor its spare room, which isn't looked at either; nothing is kept of it from call to call.
func TestHandedIn(t *testing.T) {
	for _, l := range ruled() {
		for _, pages := range []int{0, 1, 4, 16, 17} {
			in, changed := guarded(l)
			want := told(slices.Clip(slices.Clone(l)), pages)
			if got := told(in, pages); got != want {
				t.Fatalf("%v, of %d pages: with spare room\n%snot\n%s", l, pages, got, want)
			}
			if changed() {
				t.Fatalf("%v, of %d pages: changed", l, pages)
			}
			spoil(in)
			told(in, pages)
			if got := told(l, pages); got != want {
				t.Fatalf("%v, of %d pages: again\n%snot\n%s", l, pages, got, want)
			}
		}
	}
}

// Of one list, many at once: none of it is written.
func TestAtOnce(t *testing.T) {
	l, changed := guarded(all())
	want := told(all(), 4)
	got := make(chan string)
	for range 8 {
		go func() { got <- told(l, 4) }()
	}
	for range 8 {
		if text := <-got; text != want {
			t.Errorf("at once:\n%snot\n%s", text, want)
		}
	}
	if changed() {
		t.Error("changed")
	}
}
