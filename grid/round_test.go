package grid_test

import (
	"slices"
	"testing"

	"warpwright/api"
	"warpwright/grid"
)

// mirror is the code of the chapter's example: each item writes what it has read from where another one has written.
const mirror = "code 4 2 2 0 0; array s 2 1 4; array a 1 1 4; " +
	"block; id 2 r0; store 0 r0 r0; barrier 1; " +
	"block; bin 11 r1 3 r0; load 0 r1 r1; store 1 r0 r1; exit"

// P9.1, for I2: the rounds of the chapter's example.
func TestRoundsOfExample(t *testing.T) {
	c := parse(t, mirror)
	img := started(c, 1)
	before := first(t, c, img)
	s, events := rounded(t, c, img.Launch, before)
	want := clone(before)
	want.G.Shared[0] = []int32{0, 1, 2, 3}
	var list []api.Event
	for n := range want.G.Items {
		want.G.Items[n].Block, want.G.Items[n].Regs = 1, []int32{int32(n), 0}
		list = append(list, api.Event{Kind: api.VStore, Item: n, At: 1, I: n, V: int32(n)})
	}
	if !same(s, want) || !slices.Equal(events, list) {
		t.Errorf("%+v, %v, not %+v, %v", s, events, want, list)
	}
	s, events = rounded(t, c, img.Launch, s)
	want.Global[1], list = []int32{3, 2, 1, 0}, nil
	for n := range want.G.Items {
		want.G.Items[n] = api.Item{Id: n, At: api.AtExit, Regs: []int32{0, 0}, Priv: want.G.Items[n].Priv}
		list = append(list, api.Event{Kind: api.VLoad, Item: n, Block: 1, At: 1, I: 3 - n, V: int32(3 - n)},
			api.Event{Kind: api.VStore, Item: n, Block: 1, At: 2, Array: 1, I: n, V: int32(3 - n)})
	}
	if !same(s, want) || !slices.Equal(events, list) {
		t.Errorf("%+v, %v, not %+v, %v", s, events, want, list)
	}
}

// P9.1, for I2, and P9.4: a subgroup passes when all items have had their turn; Turn counts the blocks of an item in the round.
func TestTurns(t *testing.T) {
	c := parse(t, "code 4 2 3 0 0; array a 1 1 8; "+
		"block; id 2 r0; atom 10 0 7 1; collect 6 r1 r0 0 1; "+
		"block; store 0 r0 r1; bin 10 r1 r1 r0; bin 10 r2 r0 1; jump 2; "+
		"block; collect 4 r2 r1 r2 3; "+
		"block; bin 10 r0 r0 3; store 0 r0 r2; barrier 4; "+
		"block; load 0 r0 7; jump 5; block; load 0 r1 0; exit")
	img := started(c, 2)
	s := state{img.Global, begin(t, c, img.Launch, 1)}
	s, events := rounded(t, c, img.Launch, s)
	var want []api.Event
	for n := range 4 {
		want = append(want, api.Event{Kind: api.VAtom, Op: api.BAdd, Item: 4 + n, At: 1, I: 7, V: 1})
	}
	for n, v := range []int32{1, 1, 5, 5} {
		want = append(want, api.Event{Kind: api.VStore, Item: 4 + n, Turn: 1, Block: 1, I: n, V: v})
	}
	for n, v := range []int32{2, 1, 8, 7} { // the sums and the numbers are 1 2 7 8, and the items of a subgroup take each other's
		want = append(want, api.Event{Kind: api.VStore, Item: 4 + n, Turn: 3, Block: 3, At: 1, I: 3 + n, V: v})
	}
	if !slices.Equal(events, want) {
		t.Errorf("%v, not %v", events, want)
	}
	if words := s.Global[0]; !slices.Equal(words, []int32{1, 1, 5, 2, 1, 8, 7, 4}) || !everywhere(s.G, api.AtBlock, 4) {
		t.Errorf("%v, %v", words, places(s.G))
	}
	s, events = rounded(t, c, img.Launch, s)
	want = nil
	for n := range 4 {
		want = append(want, api.Event{Kind: api.VLoad, Item: 4 + n, Block: 4, I: 7, V: 4}, api.Event{Kind: api.VLoad, Item: 4 + n, Turn: 1, Block: 5, V: 1})
	}
	if !slices.Equal(events, want) || !grid.Ended(s.G) {
		t.Errorf("%v, not %v; %v", events, want, places(s.G))
	}
}

// P9.1, for I2: subgroups pass by themselves, at operations of their own, as often as they can.
func TestSubgroupsPassAlone(t *testing.T) {
	c := parse(t, "code 6 2 3 0 0; array a 1 1 6; "+
		"block; id 2 r0; id 7 r1; branch r1 1 5; "+ // the subgroup 0 to 5, the others to 1
		"block; bin 24 r2 r1 1; branch r2 2 3; "+ // the subgroup 1 to 2, the last one to 3
		"block; collect 6 r1 r0 0 3; "+
		"block; bin 10 r1 r1 100; store 0 r0 r1; barrier 4; "+
		"block; exit; "+
		"block; collect 5 r1 1 0 6; "+
		"block; collect 5 r1 r1 0 7; "+
		"block; collect 5 r1 r1 0 3")
	img := started(c, 1)
	s, events := rounded(t, c, img.Launch, first(t, c, img))
	if words := s.Global[0]; !slices.Equal(words, []int32{101, 104, 105, 105, 102, 102}) || !everywhere(s.G, api.AtBlock, 4) {
		t.Errorf("%v, %v", words, places(s.G))
	}
	var items, turns []int
	for _, e := range events {
		items, turns = append(items, e.Item), append(turns, e.Turn)
	}
	if !slices.Equal(items, []int{4, 5, 2, 3, 0, 1}) || !slices.Equal(turns, []int{2, 2, 3, 3, 4, 4}) {
		t.Errorf("%v, %v", items, turns)
	}
}

// P9.1, for I2: all operations, with constants and registers as values, for subgroups of 1 and of 32 items.
func TestOperations(t *testing.T) {
	for text, want := range map[string]func(n int32) int32{
		"1 r1 r0 9":  func(int32) int32 { return -2 },
		"1 r1 7 9":   func(int32) int32 { return -1 },
		"2 r1 r0 9":  func(int32) int32 { return 1 },
		"3 r1 r0 9":  func(int32) int32 { return 0 },
		"4 r1 r0 2":  func(int32) int32 { return 2 },
		"4 r0 r0 r2": func(n int32) int32 { return (n + 1) % 32 },
		"5 r1 r0 9":  func(n int32) int32 { return n * (n + 1) / 2 },
		"6 r1 r0 9":  func(int32) int32 { return 31 * 16 },
		"6 r1 3 9":   func(int32) int32 { return 96 },
	} {
		d := text[2:4]
		c := parse(t, "code 64 32 3 0 0; array a 1 1 64; block; id 6 r0; bin 10 r2 r0 1; collect "+text+" 1; block; id 2 r2; store 0 r2 "+d+"; exit")
		img := started(c, 1)
		s, _ := rounded(t, c, img.Launch, first(t, c, img))
		for n, v := range s.Global[0] {
			if w := want(int32(n % 32)); v != w {
				t.Errorf("collect %s: %d instead of %d for the item %d", text, v, w, n)
			}
		}
	}
	c := parse(t, "code 3 1 2 0 0; array a 1 1 3; block; id 2 r0; collect 5 r1 r0 0 1; block; store 0 r0 r1; exit")
	img := started(c, 1)
	if s, _ := rounded(t, c, img.Launch, first(t, c, img)); !slices.Equal(s.Global[0], []int32{0, 1, 2}) {
		t.Errorf("subgroups of single items: %v", s.Global[0])
	}
}

// P9.8 and P9.6: items that do not meet.
func TestItemsThatDoNotMeet(t *testing.T) {
	const store = "store 0 0 1; "
	for what, blocks := range map[string]string{
		"one at a barrier":                 "block; id 2 r0; " + store + "branch r0 2 1; block; barrier 2; block; exit",
		"all but one at a barrier":         "block; id 2 r0; " + store + "branch r0 1 2; block; barrier 2; block; exit",
		"the last one has ended":           "block; id 2 r0; bin 24 r1 r0 3; " + store + "branch r1 2 1; block; barrier 2; block; exit",
		"two barriers":                     "block; id 2 r0; " + store + "branch r0 1 2; block; barrier 3; block; barrier 3; block; exit",
		"two barriers for subgroups":       "block; id 7 r0; " + store + "branch r0 1 2; block; barrier 3; block; barrier 3; block; exit",
		"half of a subgroup":               "block; id 2 r0; " + store + "branch r0 1 2; block; collect 6 r1 r0 0 2; block; exit",
		"half of a subgroup, and barriers": "block; id 6 r0; " + store + "branch r0 1 2; block; collect 6 r1 r0 0 2; block; barrier 3; block; exit",
		"two operations":                   "block; id 6 r0; " + store + "branch r0 1 2; block; collect 6 r1 r0 0 3; block; collect 6 r1 r0 0 3; block; exit",
		"a barrier and an operation":       "block; id 6 r0; " + store + "branch r0 1 2; block; collect 6 r1 r0 0 1; block; barrier 3; block; exit",
		"a subgroup has ended":             "block; id 7 r0; " + store + "collect 6 r1 r0 0 1; block; branch r0 2 3; block; barrier 3; block; exit",
		"some pass one more operation":     "block; id 2 r0; " + store + "bin 28 r0 r0 2; collect 6 r1 r0 0 1; block; branch r0 2 3; block; collect 6 r1 r0 0 3; block; barrier 4; block; exit",
	} {
		c := parse(t, "code 4 2 2 0 0; array a 1 1 1; "+blocks)
		img := started(c, 3)
		for g := range 3 {
			if _, _, e := round(t, c, img.Launch, state{img.Global, begin(t, c, img.Launch, g)}); e != api.ErrSync {
				t.Errorf("%s: %d", what, e)
			}
		}
		if _, e := run(t, c, img.Launch, img.Global); e != api.ErrSync {
			t.Errorf("Run, %s: %d", what, e)
		}
		if _, e := finish(t, c, img); e != api.ErrSync {
			t.Errorf("Finish, %s: %d", what, e)
		}
	}
}

// P9.1, for I2: items that wait, or are not all at the same place, as in an image.
func TestItemsInTheMiddle(t *testing.T) {
	c := parse(t, "code 4 2 2 0 0; array a 1 1 8; "+
		"block; barrier 1; "+
		"block; id 2 r0; store 0 r0 1; collect 6 r1 r0 0 2; "+
		"block; bin 10 r0 r0 4; store 0 r0 r1; barrier 3; "+
		"block; exit")
	img := started(c, 1)
	begun := first(t, c, img)
	at := func(places ...[2]int) state {
		s := clone(begun)
		for n, p := range places {
			s.G.Items[n].At, s.G.Items[n].Block = p[0], p[1]
			s.G.Items[n].Regs[0] = int32(10 * n)
		}
		return s
	}
	s, events := rounded(t, c, img.Launch, at([2]int{api.AtEnd, 0}, [2]int{api.AtEnd, 0}, [2]int{api.AtEnd, 0}, [2]int{api.AtEnd, 0}))
	if len(events) != 0 || !everywhere(s.G, api.AtBlock, 1) || s.G.Items[3].Regs[0] != 30 {
		t.Errorf("at a barrier: %+v, %v", s, events)
	}
	s, events = rounded(t, c, img.Launch, at([2]int{api.AtEnd, 0}, [2]int{api.AtBlock, 0}, [2]int{api.AtEnd, 0}, [2]int{api.AtBlock, 0}))
	if len(events) != 0 || !everywhere(s.G, api.AtBlock, 1) {
		t.Errorf("at a barrier, or ahead of it: %+v, %v", s, events)
	}
	mixed := at([2]int{api.AtEnd, 1}, [2]int{api.AtBlock, 1}, [2]int{api.AtBlock, 2}, [2]int{api.AtEnd, 2})
	mixed.G.Items[2].Regs = []int32{2, 5}
	s, events = rounded(t, c, img.Launch, mixed)
	want := []api.Event{
		{Kind: api.VStore, Item: 1, Block: 1, At: 1, I: 1, V: 1},
		{Kind: api.VStore, Item: 2, Block: 2, At: 1, I: 6, V: 5},
		{Kind: api.VStore, Item: 0, Block: 2, At: 1, I: 4, V: 1},
		{Kind: api.VStore, Item: 1, Turn: 1, Block: 2, At: 1, I: 5, V: 1},
	}
	if !slices.Equal(events, want) || !everywhere(s.G, api.AtBlock, 3) || !slices.Equal(s.Global[0], []int32{0, 1, 0, 0, 1, 1, 5, 0}) {
		t.Errorf("in the middle: %+v, %v, not %v", s, events, want)
	}
	if _, _, e := round(t, c, img.Launch, at([2]int{api.AtEnd, 0}, [2]int{api.AtEnd, 0}, [2]int{api.AtEnd, 2}, [2]int{api.AtEnd, 0})); e != api.ErrSync {
		t.Errorf("at two barriers: %d", e)
	}
}

// P9.8: groups that have not begun, and groups that have ended.
func TestGroupsWithoutRounds(t *testing.T) {
	c := parse(t, mirror)
	img := started(c, 2)
	ended := begin(t, c, img.Launch, 1)
	for n := range ended.Items {
		ended.Items[n].At = api.AtExit
	}
	for _, g := range []api.Group{{Id: 1}, {Id: 1, Shared: ended.Shared}, {Items: []api.Item{}}, ended} {
		if _, _, e := round(t, c, img.Launch, state{img.Global, g}); e != api.ErrArg {
			t.Errorf("%d for %+v", e, g)
		}
	}
}

// P9.1, for I2: an index error ends a round as soon as it happens, and nothing has happened then.
func TestIndexErrors(t *testing.T) {
	const code = "code 4 2 3 0 1; array a 1 1 4; array s 2 1 4; "
	for what, blocks := range map[string]string{
		"the first item, ahead of those that do not meet": "block; id 2 r0; branch r0 1 2; block; barrier 3; block; load 0 r1 -1; exit; block; exit",
		"the last item, after those that do not meet":     "block; id 2 r0; store 0 r0 1; store 1 r0 1; bin 24 r1 r0 3; branch r1 1 2; block; store 0 4 1; exit; block; bin 24 r1 r0 2; branch r1 3 4; block; barrier 4; block; exit",
		"after an operation":                              "block; id 2 r0; store 0 r0 1; collect 6 r1 r0 0 1; block; atom 10 1 r1 1; barrier 2; block; exit",
	} {
		c := parse(t, code+blocks)
		img := started(c, 1, 0)
		if _, _, e := round(t, c, img.Launch, first(t, c, img)); e != api.ErrIndex {
			t.Errorf("%s: %d", what, e)
		}
	}
}
