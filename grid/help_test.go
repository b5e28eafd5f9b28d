package grid_test

import (
	"math/rand"
	"reflect"
	"slices"
	"strings"
	"testing"

	"warpwright/api"
	"warpwright/code"
	"warpwright/grid"
	"warpwright/launch"
)

// parse is the code of a text whose lines have "; " between them.
func parse(t *testing.T, text string) api.Code {
	t.Helper()
	c, e := code.Parse(strings.ReplaceAll(text, "; ", "\n") + "\n")
	if e != api.OK {
		t.Fatalf("%d for the text %q", e, text)
	}
	return c
}

// clone returns a copy that shares no memory, and has no nil lists.
func clone[T any](v T) T {
	return copied(reflect.ValueOf(v)).Interface().(T)
}

func copied(v reflect.Value) reflect.Value {
	c := reflect.New(v.Type()).Elem()
	c.Set(v)
	if v.Kind() == reflect.Slice {
		c.Set(reflect.MakeSlice(v.Type(), v.Len(), v.Len()))
		reflect.Copy(c, v)
		for i := 0; refers(v.Type().Elem()) && i < v.Len(); i++ {
			c.Index(i).Set(copied(v.Index(i)))
		}
	}
	if v.Kind() == reflect.Struct && refers(v.Type()) {
		for i := range v.NumField() {
			c.Field(i).Set(copied(v.Field(i)))
		}
	}
	return c
}

// refers reports whether values of a type refer to memory of their own.
func refers(t reflect.Type) bool {
	if t.Kind() == reflect.Struct {
		for i := range t.NumField() {
			if refers(t.Field(i).Type) {
				return true
			}
		}
	}
	return t.Kind() == reflect.Slice
}

func same[T any](a, b T) bool {
	return reflect.DeepEqual(clone(a), clone(b))
}

// arguments are those of a call, as far as it has them.
type arguments struct {
	C      api.Code
	L      api.Launch
	Global api.Memory
	G      api.Group
	Img    api.Image
}

// unchanged calls f, and checks that it does not change the arguments.
func unchanged(t *testing.T, a arguments, f func()) {
	t.Helper()
	before := clone(a)
	f()
	if !reflect.DeepEqual(clone(a), before) {
		t.Fatalf("the arguments have changed: %+v, before %+v", a, before)
	}
}

// state is a group, and the global memory with which it is executed.
type state struct {
	Global api.Memory
	G      api.Group
}

// begin calls Begin where there is no error.
func begin(t *testing.T, c api.Code, l api.Launch, g int) (begun api.Group) {
	t.Helper()
	unchanged(t, arguments{C: c, L: l}, func() {
		var e api.Errno
		if begun, e = grid.Begin(c, l, g); e != api.OK {
			t.Fatalf("%d for the group %d of %+v", e, g, l)
		}
	})
	return begun
}

// round calls Round, and checks that it changes no argument, and that nothing has happened if there is an error.
func round(t *testing.T, c api.Code, l api.Launch, s state) (next state, events []api.Event, e api.Errno) {
	t.Helper()
	unchanged(t, arguments{C: c, L: l, Global: s.Global, G: s.G}, func() {
		next.Global, next.G, events, e = grid.Round(c, l, s.Global, s.G)
	})
	if e != api.OK && (len(events) != 0 || !same(next, s)) {
		t.Fatalf("%d: %+v, %v, before %+v", e, next, events, s)
	}
	return next, events, e
}

// rounded is round where there is no error.
func rounded(t *testing.T, c api.Code, l api.Launch, s state) (state, []api.Event) {
	t.Helper()
	next, events, e := round(t, c, l, s)
	if e != api.OK {
		t.Fatalf("%d for %+v, of the code %+v", e, s, c)
	}
	return next, events
}

// run calls Run, and checks that it changes no argument, and that there is no memory with an error.
func run(t *testing.T, c api.Code, l api.Launch, global api.Memory) (m api.Memory, e api.Errno) {
	t.Helper()
	unchanged(t, arguments{C: c, L: l, Global: global}, func() { m, e = grid.Run(c, l, global) })
	if e != api.OK && len(m) != 0 {
		t.Fatalf("%d: %v", e, m)
	}
	return m, e
}

// finish calls Finish, and checks that it changes no argument, and that the image is the same with an error.
func finish(t *testing.T, c api.Code, img api.Image) (ended api.Image, e api.Errno) {
	t.Helper()
	unchanged(t, arguments{C: c, Img: img}, func() { ended, e = grid.Finish(c, img) })
	if e != api.OK && !same(ended, img) {
		t.Fatalf("%d: %+v, before %+v", e, ended, img)
	}
	return ended, e
}

// fresh is the image of a launch in which no group has begun.
func fresh(l api.Launch, global api.Memory) api.Image {
	img := api.Image{Launch: l, Global: global}
	for g := range l.Groups {
		img.Groups = append(img.Groups, api.Group{Id: g})
	}
	return img
}

// started is the image of a launch with this number of groups and these parameters, in which all words are 0.
func started(c api.Code, groups int, args ...int32) api.Image {
	return fresh(api.Launch{Groups: groups, Args: args}, launch.Zero(c.Arrays, api.Global))
}

// first is the group 0 at its beginning.
func first(t *testing.T, c api.Code, img api.Image) state {
	t.Helper()
	return state{img.Global, begin(t, c, img.Launch, 0)}
}

// with is the image with another group, and the memory that belongs to it.
func with(img api.Image, s state) api.Image {
	img.Global, img.Groups = s.Global, slices.Clone(img.Groups)
	img.Groups[s.G.Id] = s.G
	return img
}

// places returns where the items of a group are: At and Block.
func places(g api.Group) [][2]int {
	var l [][2]int
	for _, it := range g.Items {
		l = append(l, [2]int{it.At, it.Block})
	}
	return l
}

// anywhere reports whether a place is among those of a group.
func anywhere(g api.Group, at, block int) bool {
	return slices.Contains(places(g), [2]int{at, block})
}

// everywhere reports whether a place is that of all items of a group.
func everywhere(g api.Group, at, block int) bool {
	return len(slices.Compact(places(g))) == 1 && anywhere(g, at, block)
}

// hasCollect reports whether a code has subgroup operations.
func hasCollect(c api.Code) bool {
	return slices.ContainsFunc(c.B, func(b api.Block) bool { return b.T.Kind == api.TCollect })
}

func newRand(seed int64) *rand.Rand {
	return rand.New(rand.NewSource(seed))
}

func pick[T any](r *rand.Rand, list ...T) T {
	return list[r.Intn(len(list))]
}
