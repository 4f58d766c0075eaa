package memory_test

import (
	"math"
	"testing"

	"sepal/api"
	"sepal/memory"
)

func TestNewAddress(t *testing.T) {
	for _, c := range []struct {
		m    []api.Block
		want [4]int // for the choices 0, 1, 2, and 3
	}{
		{nil, [4]int{1, 2, 3, 4}},
		{nodes(1), [4]int{2, 3, 4, 5}},
		{nodes(2), [4]int{1, 3, 4, 5}},
		{nodes(1, 3), [4]int{2, 4, 5, 6}},
		{nodes(1, 2, 3, 4), [4]int{5, 6, 7, 8}},
		{nodes(2, 4, 6), [4]int{1, 3, 5, 7}},
		{nodes(2, 3, 5, 6, 7, 9), [4]int{1, 4, 8, 10}},
		{nodes(5, api.MaxAddress), [4]int{1, 2, 3, 4}},
		{row(api.MaxBlocks - 1), [4]int{100, 101, 102, 103}},
	} {
		for choice, want := range map[int]int{
			0: c.want[0], 1: c.want[1], 2: c.want[2], 3: c.want[3],
			4: c.want[0], 5: c.want[1], 6: c.want[2], 7: c.want[3], 102: c.want[2],
			-1: c.want[3], -2: c.want[2], -3: c.want[1], -4: c.want[0], -5: c.want[3], -101: c.want[3],
			math.MaxInt: c.want[3], math.MinInt: c.want[0], math.MinInt + 1: c.want[1],
		} {
			checkNew(t, c.m, choice, "Tree", 2, want)
		}
	}
}

// checkNew demands that a new block is at this address, and that no other one has changed.
func checkNew(t *testing.T, m []api.Block, choice int, record string, fields, want int) {
	t.Helper()
	n, a, e := memory.New(m, choice, record, fields)
	if a != want || e != api.OK || !memory.Valid(n) {
		t.Error(m, choice, a, e)
		return
	}
	in, out, e := memory.Pick(n, []int{want})
	if e != api.OK {
		t.Error(n, e)
	}
	check(t, choice, in, []api.Block{block(want, record, make([]int, fields)...)})
	check(t, choice, out, m)
}

func TestNewBlock(t *testing.T) {
	m := nodes(1, 3)
	for fields := 1; fields <= api.MaxParams; fields++ {
		checkNew(t, m, 0, "Tree", fields, 2)
	}
	checkNew(t, m, 0, "abcdefghijklmnopqrst", 1, 2)
	full := row(api.MaxBlocks)
	for _, c := range []struct {
		m      []api.Block
		record string
		fields int
		e      api.Errno
	}{
		{m, "", 1, api.ErrForm},
		{m, "new", 1, api.ErrForm},
		{m, "1", 1, api.ErrForm},
		{m, "abcdefghijklmnopqrstu", 1, api.ErrForm},
		{m, "", 0, api.ErrForm},
		{full, "", 1, api.ErrForm},
		{full, "", 9, api.ErrForm},
		{m, "Node", 0, api.ErrRange},
		{m, "Node", -1, api.ErrRange},
		{m, "Node", api.MaxParams + 1, api.ErrRange},
		{full, "Node", 0, api.ErrRange},
		{full, "Node", api.MaxParams + 1, api.ErrRange},
		{full, "Node", 1, api.ErrFull},
	} {
		n, a, e := memory.New(c.m, 0, c.record, c.fields)
		checkNone(t, c, n, e, c.e)
		if a != 0 {
			t.Error(c, a)
		}
	}
}
