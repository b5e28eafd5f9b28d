package launch_test

import (
	"math"
	"reflect"
	"slices"
	"testing"

	"warpwright/api"
	"warpwright/launch"
)

var spaces = []int{api.Global, api.Shared, api.Private}

// someArrays has lists of arrays of all spaces and lengths.
func someArrays() [][]api.Array {
	next := numbers()
	lengths := []int{0, 1, 2, 3, 100, 4095, 4096}
	lists := [][]api.Array{nil, {}}
	for n := 1; n <= 8; n++ {
		for range 6 {
			var l []api.Array
			for range n {
				l = append(l, api.Array{Name: "a", Space: spaces[next()%3], Type: int(next()%3) + 1, Len: lengths[next()%uint32(len(lengths))]})
			}
			lists = append(lists, l)
		}
	}
	for _, space := range spaces {
		for _, n := range lengths {
			lists = append(lists, []api.Array{{Space: space, Len: n}})
		}
	}
	return lists
}

// P4.1, for D5.
func TestZeroIsAsSpecified(t *testing.T) {
	for _, l := range someArrays() {
		old := slices.Clone(l)
		for _, space := range append(strangers(1, 3), spaces...) {
			m := launch.Zero(l, space)
			if len(m) != len(l) {
				t.Fatalf("%d lists for %v", len(m), l)
			}
			for i, words := range m {
				want := 0
				if l[i].Space == space {
					want = l[i].Len
				}
				if len(words) != want || slices.ContainsFunc(words, func(v int32) bool { return v != 0 }) {
					t.Fatalf("the array %v has the words %v in the space %d", l[i], words, space)
				}
			}
		}
		if !reflect.DeepEqual(l, old) {
			t.Fatal("the arrays have changed")
		}
	}
}

// P4.5, and P4.1 for D5.
func TestZeroFits(t *testing.T) {
	for _, l := range someArrays() {
		for _, space := range append(strangers(1, 3), spaces...) {
			m := launch.Zero(l, space)
			if !launch.Fits(l, space, m) {
				t.Errorf("the zeros of %v do not fit the space %d", l, space)
			}
			if launch.Fits(l, space, append(slices.Clone(m), nil)) || launch.Fits(l, space, append(slices.Clone(m), []int32{0})) {
				t.Errorf("a list more than %v fits the space %d", l, space)
			}
			if len(m) > 0 && (launch.Fits(l, space, m[1:]) || launch.Fits(l, space, m[:len(m)-1]) || launch.Fits(l, space, nil)) {
				t.Errorf("a list less than %v fits the space %d", l, space)
			}
		}
	}
}

// P4.5: also for words that are not 0, and without a list.
func TestOtherNumbersOfWordsDoNotFit(t *testing.T) {
	for _, l := range someArrays() {
		for _, space := range spaces {
			for i := range l {
				m := launch.Zero(l, space)
				for _, words := range m {
					for k := range words {
						words[k] = int32(k*k) - 5
					}
				}
				if !launch.Fits(l, space, m) {
					t.Fatalf("words of %v do not fit the space %d", l, space)
				}
				words := m[i]
				m[i] = append(slices.Clone(words), 0)
				if launch.Fits(l, space, m) {
					t.Fatalf("a word more in the array %d of %v fits the space %d", i, l, space)
				}
				if len(words) > 0 {
					m[i] = words[1:]
					if launch.Fits(l, space, m) {
						t.Fatalf("a word less in the array %d of %v fits the space %d", i, l, space)
					}
					m[i] = nil
					if launch.Fits(l, space, m) {
						t.Fatalf("no words in the array %d of %v fit the space %d", i, l, space)
					}
				}
			}
		}
	}
}

// P4.1 and P4.6, for D5: Fits accepts all arguments.
func TestExamplesOfFits(t *testing.T) {
	l := []api.Array{{Space: api.Global, Len: 2}, {Space: api.Shared, Len: 1}, {Space: api.Private, Len: 3}, {Space: api.Global, Len: 0}}
	for i, c := range []struct {
		l     []api.Array
		space int
		m     api.Memory
		want  bool
	}{
		{l, api.Global, api.Memory{{1, 2}, nil, nil, nil}, true},
		{l, api.Global, api.Memory{{1, 2}, {}, {}, {}}, true},
		{l, api.Global, api.Memory{{1, 2}, {3}, nil, nil}, false},
		{l, api.Global, api.Memory{{1, 2}, nil, nil, {0}}, false},
		{l, api.Global, api.Memory{nil, {1}, nil, nil}, false},
		{l, api.Shared, api.Memory{nil, {1}, nil, nil}, true},
		{l, api.Private, api.Memory{nil, nil, {1, 2, 3}, nil}, true},
		{l, api.Private, api.Memory{nil, nil, {1, 2, 3}}, false},
		{l, api.Private, api.Memory{nil, nil, {1, 2, 3}, nil, nil}, false},
		{l, 0, api.Memory{nil, nil, nil, nil}, true},
		{l, -1, api.Memory{{1, 2}, nil, nil, nil}, false},
		{l, 4, api.Memory{}, false},
		{nil, api.Global, nil, true},
		{nil, 7, api.Memory{}, true},
		{nil, api.Global, api.Memory{nil}, false},
		{[]api.Array{{Space: api.Global, Len: -1}}, api.Global, api.Memory{nil}, false},
		{[]api.Array{{Space: api.Global, Len: -1}}, api.Global, api.Memory{{0}}, false},
		{[]api.Array{{Space: api.Global, Len: -1}}, api.Shared, api.Memory{nil}, true},
		{[]api.Array{{Space: api.Global, Len: math.MinInt}}, api.Global, api.Memory{nil}, false},
		{[]api.Array{{Space: api.Global, Len: math.MaxInt}}, api.Global, api.Memory{{1}}, false},
		{[]api.Array{{Space: api.Global, Len: 1 << 32}}, api.Global, api.Memory{nil}, false},
		{[]api.Array{{Space: api.Global, Len: 5000}}, api.Global, api.Memory{make([]int32, 5000)}, true},
		{[]api.Array{{Space: 9, Len: 1}}, 9, api.Memory{{1}}, true},
	} {
		old := slices.Clone(c.l)
		if launch.Fits(c.l, c.space, c.m) != c.want {
			t.Errorf("case %d: not %t", i, c.want)
		}
		if !slices.Equal(c.l, old) {
			t.Errorf("case %d: the arrays have changed", i)
		}
	}
}

// P1: Zero returns for lengths for which nothing is promised, too.
func TestZeroOfNoLength(t *testing.T) {
	for _, n := range []int{math.MinInt, -1, math.MaxInt} {
		if m := launch.Zero([]api.Array{{Space: api.Global, Len: n}}, api.Global); len(m) != 1 {
			t.Errorf("%d lists for an array of %d words", len(m), n)
		}
	}
}

// D6: no list has memory of another one, or of another call.
func TestListsOfZeroAreNew(t *testing.T) {
	l := []api.Array{{Space: api.Global, Len: 3}, {Space: api.Global, Len: 3}, {Space: api.Shared, Len: 3}, {Space: api.Global, Len: 4}}
	m := launch.Zero(l, api.Global)
	for i, words := range m {
		for k := range words {
			words[k] = int32(i + 1)
		}
	}
	for _, words := range m {
		_ = append(words, -1)
	}
	for i, words := range m {
		if len(words) > 0 && (slices.Min(words) != int32(i+1) || slices.Max(words) != int32(i+1)) {
			t.Errorf("the list %d has memory of another one", i)
		}
	}
	if fresh := launch.Zero(l, api.Global); slices.Max(slices.Concat(fresh...)) != 0 {
		t.Error("another call has the same memory")
	}
	before := api.Memory{{1, 2, 3}, {4, 5, 6}, nil, {7, 8, 9, 10}}
	if !launch.Fits(l, api.Global, before) || !reflect.DeepEqual(before, api.Memory{{1, 2, 3}, {4, 5, 6}, nil, {7, 8, 9, 10}}) {
		t.Error("Fits has changed a memory")
	}
}
