package order_test

import (
	"slices"
	"strings"
	"testing"

	"warpwright/api"
	"warpwright/code"
)

// P14.1: dependences by hand; arrays 0 and 4 are private, 2 and 5 shared, 1 and 3 global.
func TestDepends(t *testing.T) {
	for _, x := range []struct {
		first, second string
		want          bool
	}{
		// registers
		{"mov r0 1", "mov r0 2", true},
		{"mov r0 1", "mov r1 2", false},
		{"mov r0 1", "mov r1 r0", true},
		{"mov r1 r0", "mov r2 r0", false},
		{"mov r1 1", "mov r2 1", false},
		{"mov r0 r0", "mov r0 r0", true},
		{"un 1 r1 r0", "id 1 r0", true},
		{"bin 10 r1 r0 r2", "param 0 r2", true},
		{"bin 10 r1 r0 r2", "param 0 r3", false},
		{"bin 10 r1 r2 r0", "bin 10 r0 3 3", true},
		{"sel r1 r2 r3 r0", "get 0 r0", true},
		{"sel r1 r2 r0 r3", "get 0 r0", true},
		{"sel r1 r0 r2 r3", "get 0 r0", true},
		{"sel r1 r2 r3 r4", "get 0 r0", false},
		{"load 1 r1 r0", "mov r0 1", true},
		{"load 1 r0 1", "mov r0 1", true},
		{"load 1 r0 1", "load 3 r0 1", true},
		{"load 1 r0 1", "load 3 r1 r0", true},
		{"store 1 r0 1", "mov r0 1", true},
		{"store 1 1 r0", "mov r0 1", true},
		{"atom 10 1 r0 1", "mov r0 1", true},
		{"atom 10 1 1 r0", "mov r0 1", true},
		{"put 1 r0", "mov r0 1", true},
		{"put 0 r0", "mov r1 r0", false},
		// what has no register does not have the same one
		{"store 1 0 1", "store 3 0 1", false},
		{"put 0 1", "put 1 1", false},
		{"put 0 1", "fence 1", false},
		// numbers of arrays, slots and registers are different ones
		{"store 1 0 1", "put 1 0", false},
		{"store 0 0 1", "get 0 r0", false},
		{"load 0 r1 1", "get 0 r0", false},
		{"store 0 0 1", "param 0 r0", false},
		{"put 0 1", "param 0 r0", false},
		{"put 1 1", "id 1 r1", false},
		// arrays
		{"load 0 r0 0", "load 0 r1 0", false},
		{"load 0 r0 0", "load 4 r1 0", false},
		{"load 1 r0 0", "load 1 r1 0", true},
		{"load 2 r0 0", "load 2 r1 0", true},
		{"load 1 r0 0", "load 3 r1 0", false},
		{"load 2 r0 0", "load 1 r1 0", false},
		{"load 0 r0 0", "store 0 1 1", true},
		{"load 0 r0 0", "store 4 0 1", false},
		{"store 0 0 1", "store 0 1 1", true},
		{"store 0 0 1", "store 4 0 1", false},
		{"load 1 r0 0", "store 1 1 1", true},
		{"load 1 r0 0", "store 3 0 1", false},
		{"store 2 0 1", "store 2 1 1", true},
		{"store 2 0 1", "store 5 0 1", false},
		{"store 2 0 1", "store 0 0 1", false},
		{"load 1 r0 0", "atom 10 1 1 1", true},
		{"store 1 0 1", "atom 10 1 1 1", true},
		{"atom 10 1 0 1", "atom 10 1 1 1", true},
		// slots
		{"get 0 r0", "get 0 r1", false},
		{"get 0 r0", "get 0 r0", true},
		{"get 0 r0", "put 0 1", true},
		{"get 0 r0", "put 1 1", false},
		{"put 0 1", "put 0 1", true},
		// what is strong and what is visible
		{"fence 1", "fence 2", true},
		{"fence 2", "fence 2", true},
		{"fence 1", "load 1 r0 0", true},
		{"fence 2", "load 2 r0 0", true},
		{"fence 1", "load 0 r0 0", false},
		{"fence 1", "store 3 0 1", true},
		{"fence 1", "store 5 0 1", true},
		{"fence 2", "store 4 0 1", false},
		{"fence 1", "atom 10 1 0 1", true},
		{"fence 2", "mov r0 1", false},
		{"fence 2", "get 0 r0", false},
		{"atom 10 1 0 1", "atom 10 2 0 1", true},
		{"atom 10 1 0 1", "load 3 r0 0", true},
		{"atom 10 1 0 1", "load 5 r0 0", true},
		{"atom 10 1 0 1", "load 0 r0 0", false},
		{"atom 17 2 0 1", "store 1 0 1", true},
		{"atom 17 2 0 1", "store 4 0 1", false},
		{"atom 10 1 0 1", "mov r0 1", false},
		{"atom 10 1 0 1", "put 1 1", false},
	} {
		c, i, j := made(), instOf(t, x.first), instOf(t, x.second)
		if depends(t, c, i, j) != x.want || depends(t, c, j, i) != x.want || wantDepends(c, i, j) != x.want {
			t.Errorf("%s and %s: %t", x.first, x.second, !x.want)
		}
		if !depends(t, c, i, i) {
			t.Errorf("%s does not depend on itself", x.first)
		}
	}
}

// P14.1: lists by hand.
func TestExamples(t *testing.T) {
	for _, x := range []struct {
		name  string
		block string
		want  []int
	}{
		{"the chapter's", "mov r0 1; store 1 r0 r0; load 3 r1 r0; load 1 r2 r0; bin 10 r3 r1 r2; exit", []int{0, 2, 1, 3, 4}},
		{"the chapter's, with a fence", "mov r0 1; store 1 r0 r0; fence 1; load 3 r1 r0; load 1 r2 r0; bin 10 r3 r1 r2; exit", []int{0, 1, 2, 3, 4, 5}},
		{"nothing", "exit", nil},
		{"an instruction", "fence 1; exit", []int{0}},
		{"a load", "load 1 r0 0; exit", []int{0}},
		{"no loads", "mov r0 1; mov r1 2; store 1 r0 r1; get 1 r2; exit", []int{0, 1, 2, 3}},
		{"loads alone", "load 1 r0 0; load 3 r1 0; load 0 r2 0; exit", []int{0, 1, 2}},
		{"a load at the end", "mov r0 1; mov r1 1; mov r2 1; load 1 r3 0; exit", []int{3, 0, 1, 2}},
		{"loads go in their order", "mov r0 1; load 3 r1 0; mov r2 1; load 1 r3 0; load 0 r4 0; exit", []int{1, 3, 4, 0, 2}},
		{"the least load that is ready, not the first one", "mov r0 1; load 1 r1 r0; load 3 r2 0; exit", []int{2, 0, 1}},
		{"a load of which another one is the index", "mov r0 1; load 1 r1 0; mov r2 2; load 3 r3 r1; exit", []int{1, 3, 0, 2}},
		{"as soon as it is ready, also before a lesser one", "mov r0 1; mov r1 1; load 1 r2 r1; load 3 r3 r0; exit", []int{0, 3, 1, 2}},
		{"between others", "mov r0 1; mov r1 1; mov r2 1; load 1 r3 r1; exit", []int{0, 1, 3, 2}},
		{"before what spoils its index", "mov r0 1; mov r1 2; load 1 r2 r0; mov r0 3; load 3 r4 r0; exit", []int{0, 2, 1, 3, 4}},
		{"what is read before it is loaded", "mov r0 r1; mov r2 3; load 1 r1 0; exit", []int{0, 2, 1}},
		{"what is written before it is loaded", "mov r0 1; mov r1 3; load 1 r1 0; exit", []int{0, 1, 2}},
		{"a private array", "store 0 0 1; load 4 r0 0; load 0 r1 0; exit", []int{1, 0, 2}},
		{"a private array goes before a fence and an atomic access", "fence 2; atom 10 1 0 1; load 0 r0 0; load 3 r1 0; exit", []int{2, 0, 1, 3}},
		{"loads do not go before loads of the same array", "mov r0 1; load 1 r1 r0; load 1 r2 0; exit", []int{0, 1, 2}},
		{"but they do if it is private", "mov r0 1; load 0 r1 r0; load 0 r2 0; exit", []int{2, 0, 1}},
		{"another array than that of a store", "store 1 0 1; store 3 0 1; load 2 r0 0; load 3 r1 0; exit", []int{2, 0, 1, 3}},
		{"slots do not matter to loads", "put 0 r0; get 0 r1; load 0 r2 0; load 1 r3 r1; exit", []int{2, 0, 1, 3}},
		{"an instruction that gets behind all loads", "store 1 0 1; mov r0 1; load 3 r1 r0; load 5 r2 r1; load 0 r3 r2; mov r4 1; exit", []int{0, 1, 2, 3, 4, 5}},
		{"also that before its index", "mov r0 1; store 1 0 1; load 3 r1 r0; load 5 r2 r1; load 0 r3 r2; mov r4 1; exit", []int{0, 2, 3, 4, 1, 5}},
	} {
		c := coded(t, x.block)
		d, l := run(t, c)
		lines := strings.Split(x.block, "; ")
		var want []string
		for _, n := range x.want {
			want = append(want, lines[n])
		}
		if !sameLists(l, [][]int{x.want}) || !same(d, coded(t, strings.Join(append(want, "exit"), "; "))) {
			t.Errorf("%s: %v, %+v", x.name, l, d.B)
		}
		if e := check(t, c, d, l); e != api.OK {
			t.Errorf("%s: %d", x.name, e)
		}
	}
}

// P14.1: each block has an order of its own, also those that are not reached; their ends stay, and all the rest of the code.
func TestBlocks(t *testing.T) {
	c := coded(t,
		"mov r0 1; load 1 r1 0; branch r1 2 0",
		"mov r0 1; load 1 r1 0; load 3 r0 r0; jump 1",
		"collect 6 r1 r1 0 3",
		"load 1 r1 0; barrier 4",
		"store 0 0 1; mov r5 1; load 1 r1 r5; exit")
	want := coded(t,
		"load 1 r1 0; mov r0 1; branch r1 2 0",
		"load 1 r1 0; mov r0 1; load 3 r0 r0; jump 1",
		"collect 6 r1 r1 0 3",
		"load 1 r1 0; barrier 4",
		"store 0 0 1; mov r5 1; load 1 r1 r5; exit")
	d, x := run(t, c)
	if !sameLists(x, [][]int{{1, 0}, {1, 0, 2}, nil, {0}, {0, 1, 2}}) || !same(d, want) || check(t, c, want, x) != api.OK {
		t.Errorf("%v: %+v", x, d)
	}
	if code.Reach(c)[1] {
		t.Errorf("block 1 is reached")
	}
}

// P14.3: orders by hand that Run does not return.
func TestOtherOrders(t *testing.T) {
	block := "mov r0 1; store 1 r0 r0; load 3 r1 r0; load 1 r2 r0; bin 10 r3 r1 r2"
	c := coded(t, block+"; exit")
	for _, x := range []struct {
		list []int
		want api.Errno
	}{
		{[]int{0, 1, 2, 3, 4}, api.OK},
		{[]int{0, 2, 1, 3, 4}, api.OK},
		{[]int{0, 1, 3, 2, 4}, api.OK},
		{[]int{0, 3, 1, 2, 4}, api.ErrCert},
		{[]int{1, 0, 2, 3, 4}, api.ErrCert},
		{[]int{0, 2, 1, 4, 3}, api.ErrCert},
		{[]int{0, 2, 1, 3}, api.ErrCert},
		{[]int{0, 2, 1, 3, 3}, api.ErrCert},
		{[]int{0, 2, 1, 3, 4, 4}, api.ErrCert},
		{nil, api.ErrCert},
	} {
		lists := [][]int{x.list}
		if e := check(t, c, reordered(c, lists), lists); e != x.want {
			t.Errorf("%v: %d, not %d", x.list, e, x.want)
		}
		if e := check(t, c, c, lists); (e == api.OK) != slices.Equal(x.list, []int{0, 1, 2, 3, 4}) {
			t.Errorf("%v: %d for the code itself", x.list, e)
		}
	}
}
