package memory_test

import (
	"math/rand"
	"slices"
	"testing"

	"sepal/api"
)

// successors returns a model without a store, with a block for each number, whose field leads to the block of its successor (null, if this is negative).
func successors(n int, next func(int) int) api.Model {
	var m api.Model
	for i := range n {
		m.Memory = append(m.Memory, block(i+1, "Node", max(next(i)+1, 0)))
	}
	return m
}

// cycles returns a model with cycles of blocks that have these lengths.
func cycles(lengths ...int) api.Model {
	var next []int
	for _, n := range lengths {
		first := len(next)
		for i := range n {
			next = append(next, first+(i+1)%n)
		}
	}
	return successors(len(next), func(i int) int { return next[i] })
}

// edges returns a model with a block for each edge of a graph, which leads to the two ends of the edge; there are no blocks at these.
func edges(l ...[2]int) api.Model {
	var m api.Model
	for i, e := range l {
		m.Memory = append(m.Memory, block(i+1, "Tree", 120+e[0], 120+e[1]))
	}
	return m
}

// bundles returns the edges of this many graphs, each of which leads from three points to three others. In the twisted ones two edges are exchanged with those of the next graph.
func bundles(n, twisted int) [][2]int {
	var l [][2]int
	for i := range n {
		for j := range 9 {
			l = append(l, [2]int{6*i + j/3, 6*i + 3 + j%3})
		}
	}
	for i := range twisted {
		a, b := &l[18*i], &l[18*i+9]
		a[1], b[1] = b[1], a[1]
	}
	return l
}

// grid returns the edges between 16 fields of a board that lead from each field in these directions; the board has no borders.
func grid(directions ...[2]int) [][2]int {
	var l [][2]int
	for x := range 4 {
		for y := range 4 {
			for _, d := range directions {
				l = append(l, [2]int{4*x + y, (x+d[0])%4*4 + (y+d[1])%4})
			}
		}
	}
	return l
}

func rook() [][2]int {
	return grid([2]int{1, 0}, [2]int{2, 0}, [2]int{3, 0}, [2]int{0, 1}, [2]int{0, 2}, [2]int{0, 3})
}

// rookLike returns edges with the same numbers of common neighbors as those of rook.
func rookLike() [][2]int {
	return grid([2]int{1, 0}, [2]int{3, 0}, [2]int{0, 1}, [2]int{0, 3}, [2]int{1, 1}, [2]int{3, 3})
}

// TestSimilarLarge has models of up to MaxBlocks blocks that no name of a store leads to. Blocks that look the same must not make the search endless.
func TestSimilarLarge(t *testing.T) {
	null := func(int) int { return -1 }
	before := func(i int) int { return i - 1 }
	heap := func(i int) int { return (i+1)/2 - 1 }
	crooked := func(i int) int { return []int{heap(i), heap(i - 1)}[i/99] }
	for what, pair := range map[string][2]api.Model{
		"single blocks":    {successors(100, null), successors(100, func(i int) int { return []int{-1, 0}[i/99] })},
		"a list":           {successors(100, before), successors(100, func(i int) int { return i - 1 - i/99 })},
		"a star":           {successors(100, func(i int) int { return min(i, 1) - 1 }), successors(100, func(i int) int { return min(i, 1) - 1 + i/99 })},
		"a tree":           {successors(100, heap), successors(100, crooked)},
		"cycles of 2":      {cycles(slices.Repeat([]int{2}, 50)...), cycles(append(slices.Repeat([]int{2}, 48), 4)...)},
		"cycles of 6":      {cycles(slices.Repeat([]int{6}, 16)...), cycles(append(slices.Repeat([]int{6}, 15), 3, 3)...)},
		"two cycles":       {cycles(50, 50), cycles(49, 51)},
		"one cycle":        {cycles(100), cycles(98, 2)},
		"bundles":          {edges(bundles(10, 0)...), edges(bundles(10, 1)...)},
		"twisted bundles":  {edges(bundles(10, 4)...), edges(bundles(10, 3)...)},
		"a board":          {edges(rook()...), edges(rookLike()...)},
		"another board":    {edges(rookLike()...), edges(rook()...)},
		"a board and more": {edges(append(rook(), [2]int{50, 51})...), edges(append(rook(), [2]int{50, 3})...)},
	} {
		r := rand.New(rand.NewSource(1))
		checkSimilar(t, what, pair[0], shuffled(r, pair[0]), true)
		checkSimilar(t, what, shuffled(r, pair[1]), pair[1], true)
		checkSimilar(t, what, shuffled(r, pair[0]), shuffled(r, pair[1]), false)
	}
}
