package flow_test

import (
	"math"
	"math/big"
	"slices"
	"testing"

	"sepal/api"
	"sepal/flow"
)

func checkPaths(t *testing.T, text string, l []api.Stmt, loops, want int) {
	t.Helper()
	if n := flow.Paths(l, loops); n != want {
		t.Errorf("%s: %d paths with %d turns instead of %d", text, n, loops, want)
	}
}

func TestPaths(t *testing.T) {
	for _, c := range []struct {
		text string
		want []int // for 0 turns, 1, ..
	}{
		{"", []int{1, 1, 1}},
		{"x = 1; x = y.next; x.next = y; x = new Node; free x; x = input; p(); x = p(); assert 0 == 1; par { p(); } { p(); }", []int{1, 1, 1}},
		{"if (0 == 0) { }", []int{2, 2, 2}},
		{"if (0 == 0) { x = 1; x = 2; } else { }", []int{2, 2, 2}},
		{"if (0 == 0) { if (0 == 0) { } }", []int{3, 3}},
		{"if (0 == 0) { } else { if (0 == 0) { } }", []int{3, 3}},
		{"if (0 == 0) { if (0 == 0) { } } else { if (0 == 0) { } if (0 == 0) { } }", []int{6, 6}},
		{"if (0 == 0) { } if (0 == 0) { } if (0 == 0) { }", []int{8, 8}},
		{"with L { }", []int{1, 1}},
		{"with L { if (0 == 0) { } with L { if (0 == 0) { } } } x = 1;", []int{4, 4}},
		{"while (0 == 0) { }", []int{1, 2, 3, 4, 5}},
		{"while (0 == 0) { x = 1; with L { x = 2; } }", []int{1, 2, 3, 4, 5}},
		{"while (0 == 0) { } while (0 == 0) { }", []int{1, 4, 9, 16}},
		{"while (0 < n) { if (a == b) { n = 0; } }", []int{1, 3, 7, 15, 31}},
		{"while (0 == 0) { while (0 == 0) { } }", []int{1, 3, 13, 1 + 4 + 16 + 64}},
		{"while (0 == 0) { while (0 == 0) { while (0 == 0) { } } }", []int{1, 4, 1 + 13 + 169}},
		{"if (0 == 0) { while (0 == 0) { } } else { with L { while (0 == 0) { } } }", []int{2, 4, 6}},
		{"while (0 == 0) invariant emp || emp || emp { }", []int{1, 2, 3}},
	} {
		for loops, want := range c.want {
			checkPaths(t, c.text, body(t, c.text), loops, want)
		}
	}
}

func TestTurnsOutOfRange(t *testing.T) {
	for text, most := range map[string]int{"": 1, "x = 1;": 1, "while (0 == 0) { }": 101, rich: flow.MaxPaths} {
		l := body(t, text)
		checkPaths(t, text, l, 100, most)
		for _, loops := range []int{-1, 101, math.MinInt, math.MaxInt} {
			checkPaths(t, text, l, loops, 0)
		}
	}
}

// withPaths returns a list that has n paths, without loops.
func withPaths(n int) []api.Stmt {
	branch := api.Stmt{Kind: api.If, C: equation("a", "b")}
	switch {
	case n == 1:
		return nil
	case n%2 == 0:
		return append(withPaths(n/2), branch)
	case n%4 == 3 && n > 3: // so that the list does not become too deep
		branch.Body, branch.Else = withPaths(3), withPaths(n-3)
	default:
		branch.Else = withPaths(n - 1)
	}
	return []api.Stmt{branch}
}

func loop(l []api.Stmt) []api.Stmt {
	return []api.Stmt{{Kind: api.While, C: equation("a", "b"), Body: l}}
}

// limitedPower returns a power, but at most MaxPaths.
func limitedPower(n, exponent int) int {
	p := 1
	for range exponent {
		p = min(p*n, flow.MaxPaths)
	}
	return p
}

func TestPathsAtTheirGreatestNumber(t *testing.T) {
	for _, n := range []int{1, 2, 3, 4, 5, 6, 7, 100, 999, flow.MaxPaths - 2, flow.MaxPaths - 1, flow.MaxPaths, flow.MaxPaths + 1, flow.MaxPaths + 2, math.MaxInt32, math.MaxInt32 + 1} {
		checkPaths(t, "n paths", withPaths(n), 1, min(n, flow.MaxPaths))
		checkPaths(t, "one of two", nests()[0](withPaths(n)), 1, min(n+1, flow.MaxPaths))
		checkPaths(t, "the other one of two", nests()[1](withPaths(n)), 1, min(n+1, flow.MaxPaths))
		checkPaths(t, "at most once", loop(withPaths(n)), 1, min(n+1, flow.MaxPaths))
		checkPaths(t, "with a lock", nests()[3](withPaths(n)), 1, min(n, flow.MaxPaths))
	}
	for _, n := range []int{2, 7, 31, 331, 1 << 15, flow.MaxPaths/7 - 1, flow.MaxPaths/7 + 1, flow.MaxPaths / 2, flow.MaxPaths - 1, flow.MaxPaths} {
		for _, m := range []int{1, 2, 7, 31, 331, 1 << 15, 151, flow.MaxPaths, flow.MaxPaths + 1} {
			checkPaths(t, "a product", append(withPaths(n), withPaths(m)...), 1, min(n*m, flow.MaxPaths))
			both := []api.Stmt{{Kind: api.If, C: equation("a", "b"), Body: withPaths(n), Else: withPaths(m)}}
			checkPaths(t, "a sum", both, 1, min(n+m, flow.MaxPaths))
		}
	}
}

func TestPowersOfPaths(t *testing.T) {
	for _, n := range []int{1, 2, 3, 4, 5, 6, 7, 31, 32, 1023, 1024, 32767, 32768, flow.MaxPaths - 1, flow.MaxPaths, flow.MaxPaths + 1} {
		sum := 0
		for k := range 101 {
			sum = min(sum+limitedPower(n, k), flow.MaxPaths)
			checkPaths(t, "powers", loop(withPaths(n)), k, sum)
		}
	}
	almost := loop(withPaths(2)) // 1 + 2 + .. + 2^29 paths with 29 turns
	branch := []api.Stmt{{Kind: api.If, C: equation("a", "b"), Body: almost}}
	two := []api.Stmt{{Kind: api.If, C: equation("a", "b"), Body: almost, Else: withPaths(2)}}
	checkPaths(t, "one less", almost, 29, flow.MaxPaths-1)
	checkPaths(t, "exactly", branch, 29, flow.MaxPaths)
	checkPaths(t, "one more", two, 29, flow.MaxPaths)
	checkPaths(t, "fewer turns", almost, 28, flow.MaxPaths/2-1)
	checkPaths(t, "more turns", almost, 30, flow.MaxPaths)
	for k := range 16 { // 1 + 4 + .. + 4^k are a third of 4^(k+1) - 1
		checkPaths(t, "a power of 4", append(loop(withPaths(4)), withPaths(3)...), k, min(1<<(2*k+2)-1, flow.MaxPaths))
		checkPaths(t, "a power of 4", []api.Stmt{{Kind: api.If, C: equation("a", "b"), Else: append(loop(withPaths(4)), withPaths(3)...)}}, k, min(1<<(2*k+2), flow.MaxPaths))
	}
}

// TestVeryManyPaths demands the limit for numbers that no int holds.
func TestVeryManyPaths(t *testing.T) {
	branches := slices.Repeat(withPaths(2), api.MaxList)
	for i, nest := range nests() {
		checkPaths(t, "branches", nest(branches), 1, flow.MaxPaths)
		l := slices.Repeat(nested(branches, api.MaxDepth-2, nest), 50)
		checkPaths(t, "very many", l, 100, flow.MaxPaths)
		want := flow.MaxPaths
		if i == 2 {
			want = 1
		}
		checkPaths(t, "very many", l, 0, want)
		checkPaths(t, "very deep", nested(withPaths(2), api.MaxDepth-1, nest), 100, []int{31, 31, flow.MaxPaths, 2}[i])
	}
	checkPaths(t, "30 branches", branches[:30], 0, flow.MaxPaths)
	checkPaths(t, "29 branches", branches[:29], 0, flow.MaxPaths/2)
	checkPaths(t, "31 branches", branches[:31], 0, flow.MaxPaths)
	for n := 32; n <= api.MaxList; n++ {
		checkPaths(t, "branches", branches[:n], 0, flow.MaxPaths)
	}
}

// allPaths returns the number of the paths of a list, which may be very great.
func allPaths(l []api.Stmt, loops int) *big.Int {
	product := big.NewInt(1)
	for _, s := range l {
		n := allPaths(s.Body, loops)
		switch s.Kind {
		case api.If:
			n.Add(n, allPaths(s.Else, loops))
		case api.While:
			sum := big.NewInt(0)
			for k := range loops + 1 {
				sum.Add(sum, new(big.Int).Exp(n, big.NewInt(int64(k)), nil))
			}
			n = sum
		}
		product.Mul(product, n)
	}
	return product
}

func TestPathsOfRandomLists(t *testing.T) {
	exact, limited := 0, 0
	randomly(t, 600, 4, func(l []api.Stmt, m *maker) {
		for _, loops := range []int{0, 1, 2, 3, 4 + m.Intn(30)} {
			want := allPaths(l, loops)
			if want.Cmp(big.NewInt(flow.MaxPaths)) > 0 {
				want.SetInt64(flow.MaxPaths)
				limited++
			} else if want.Cmp(big.NewInt(100)) > 0 {
				exact++
			}
			checkPaths(t, "a random list", l, loops, int(want.Int64()))
		}
	})
	if exact < 100 || limited < 100 {
		t.Error(exact, limited)
	}
}

// TestProductOfPaths demands that a list and another one behind it have the product of their paths.
func TestProductOfPaths(t *testing.T) {
	before := body(t, rich)
	randomly(t, 200, 3, func(l []api.Stmt, _ *maker) {
		for loops := range 3 {
			want := min(flow.Paths(before, loops)*flow.Paths(l, loops), flow.MaxPaths)
			checkPaths(t, "two random lists", slices.Concat(before, l), loops, want)
		}
		before = l
	})
}
