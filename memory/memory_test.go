package memory_test

import (
	"reflect"
	"slices"
	"testing"

	"sepal/api"
	"sepal/memory"
)

func TestValid(t *testing.T) {
	for what, m := range validMemories() {
		if !memory.Valid(m) {
			t.Error(what)
		}
	}
	for what, m := range invalidMemories() {
		if memory.Valid(m) {
			t.Error(what)
		}
	}
}

func TestGet(t *testing.T) {
	m := []api.Block{block(1, "Node", 3), block(3, "Cons", 7, 0), block(api.MaxAddress, "Tree", 1, 2, 3)}
	for _, want := range m {
		if b, ok := memory.Get(m, want.Address); !ok || !reflect.DeepEqual(b, want) {
			t.Error(b, ok)
		}
	}
	for _, a := range []int{0, -1, 2, 4, api.MaxAddress - 1, api.MaxAddress + 1} {
		if b, ok := memory.Get(m, a); ok || !reflect.DeepEqual(b, api.Block{}) {
			t.Error(a, b, ok)
		}
	}
	for what, m := range invalidMemories() {
		for _, a := range []int{-1, 0, 1, 2, 3} {
			if b, ok := memory.Get(m, a); ok || !reflect.DeepEqual(b, api.Block{}) {
				t.Error(what, a, b, ok)
			}
		}
	}
}

func TestRead(t *testing.T) {
	m := []api.Block{block(1, "Node", 3), block(3, "Cons", 7, -2), block(api.MaxAddress, "Node", api.MaxInt, -api.MaxInt)}
	for _, c := range []struct {
		address int
		record  string
		field   int
		want    int
		e       api.Errno
	}{
		{1, "Node", 0, 3, api.OK},
		{3, "Cons", 0, 7, api.OK},
		{3, "Cons", 1, -2, api.OK},
		{api.MaxAddress, "Node", 0, api.MaxInt, api.OK},
		{api.MaxAddress, "Node", 1, -api.MaxInt, api.OK},
		{0, "Node", 0, 0, api.ErrNull},
		{0, "", -1, 0, api.ErrNull},
		{2, "Node", 0, 0, api.ErrDead},
		{2, "", 9, 0, api.ErrDead},
		{-1, "Node", 0, 0, api.ErrDead},
		{api.MaxAddress + 1, "Node", 0, 0, api.ErrDead},
		{3, "Node", 0, 0, api.ErrRecord},
		{3, "Node", 2, 0, api.ErrRecord},
		{3, "Node", -1, 0, api.ErrRecord},
		{3, "", 0, 0, api.ErrRecord},
		{3, "cons", 0, 0, api.ErrRecord},
		{1, "Node", 1, 0, api.ErrRange},
		{3, "Cons", 2, 0, api.ErrRange},
		{3, "Cons", -1, 0, api.ErrRange},
	} {
		if v, e := memory.Read(m, c.address, c.record, c.field); v != c.want || e != c.e {
			t.Error(c, v, e)
		}
		// Write has the errors of Read, also for a value that is too great.
		if c.e != api.OK {
			for _, value := range []int{0, api.MaxInt + 1} {
				n, e := memory.Write(m, c.address, c.record, c.field, value)
				checkNone(t, c, n, e, c.e)
			}
		}
	}
}

func TestWrite(t *testing.T) {
	m := []api.Block{block(1, "Node", 3), block(3, "Cons", 7, 0), block(4, "Node", 1)}
	for _, value := range []int{0, 1, -1, 7, api.MaxInt, -api.MaxInt} {
		n, e := memory.Write(m, 3, "Cons", 1, value)
		if e != api.OK {
			t.Error(value, e)
		}
		check(t, value, n, []api.Block{block(1, "Node", 3), block(3, "Cons", 7, value), block(4, "Node", 1)})
	}
	for _, value := range []int{api.MaxInt + 1, -api.MaxInt - 1} {
		n, e := memory.Write(m, 3, "Cons", 1, value)
		checkNone(t, value, n, e, api.ErrBig)
	}
}

func TestFree(t *testing.T) {
	m := []api.Block{block(1, "Node", 3), block(3, "Cons", 1, 4), block(4, "Node", 3)}
	for i, b := range m {
		n, e := memory.Free(m, b.Address)
		if e != api.OK {
			t.Error(b, e)
		}
		check(t, b, n, slices.Concat(m[:i], m[i+1:]))
	}
	n, e := memory.Free(m, 0)
	checkNone(t, 0, n, e, api.ErrNull)
	for _, a := range []int{-1, 2, 5, api.MaxAddress + 1} {
		n, e := memory.Free(m, a)
		checkNone(t, a, n, e, api.ErrDead)
	}
}

// TestErrArg demands that operations on memories that are not valid have ErrArg, also if there are other errors.
func TestErrArg(t *testing.T) {
	for what, m := range invalidMemories() {
		for _, a := range []int{0, 1, 2, -1} {
			if v, e := memory.Read(m, a, "Node", 0); v != 0 || e != api.ErrArg {
				t.Error(what, v, e)
			}
			n, e := memory.Write(m, a, "Node", 0, 1)
			checkNone(t, what, n, e, api.ErrArg)
			n, e = memory.Write(m, a, "", -1, api.MaxInt+1)
			checkNone(t, what, n, e, api.ErrArg)
			n, e = memory.Free(m, a)
			checkNone(t, what, n, e, api.ErrArg)
			in, out, e := memory.Pick(m, []int{a})
			checkNone(t, what, slices.Concat(in, out), e, api.ErrArg)
		}
		for _, fields := range []int{0, 1} {
			for _, record := range []string{"", "Node"} {
				n, a, e := memory.New(m, 0, record, fields)
				checkNone(t, what, n, e, api.ErrArg)
				if a != 0 {
					t.Error(what, a)
				}
			}
		}
		for _, other := range [][]api.Block{nil, m, nodes(1, 2, 3), row(api.MaxBlocks)} {
			n, e := memory.Join(m, other)
			checkNone(t, what, n, e, api.ErrArg)
			n, e = memory.Join(other, m)
			checkNone(t, what, n, e, api.ErrArg)
		}
		in, out, e := memory.Pick(m, nil)
		checkNone(t, what, slices.Concat(in, out), e, api.ErrArg)
	}
}
